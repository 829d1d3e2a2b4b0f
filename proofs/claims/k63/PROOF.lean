import PyProof.Rows.All
import Wide.All
import OpenK.AllK
import Wide.FinOn
import KE.KStateDown
import HandS.ForMost
import HandS.IsInst
import HandS.FStr
import HandS.Star
import HandS.Style
import HandS.Codes
import HandS.Walk
import HandS.Defaults
import HandS.MakeKw
import HandS.SlotsOwn
import HandS.HeadEnd
import HandS.HeadHook1
import HandS.HeadHook2
import HandS.Head0
import HandS.Head1
import HandS.Head2
import HandS.Exc
import HandS.TryMany
import KE.KTryMore
import HandS.ExcInit
import HandS.ExcField
import HandS.Lambda
import HandS.EndTab
import HandS.HeadWalk
import HandS.HeadHook4
import KE.KExcInit
import HandS.HeadHook3
import HandS.More
import Wide.Once
import HandS.Nested
import HandS.MakeKwOnly
import HandS.TupAny
import PyProof.IsInstance
import PyProof.MeetsIn
import KE.KUnpackStar
import HandS.ExcValue
import KE.KUnpack
import HandS.SortKw
import KE.DataMinMax
import HandS.Iter
import HandS.TryOnly
import KE.GoesEnum
import KE.GoesMore
import HandS.Text
import PyProof.StrLawsAffix
import KE.IntTextLaws
import KE.GoesEnumKw
import HandS.RaiseMore
import HandS.StrMore
import HandS.CallLocal
import PySem.Challenge.RW_tidewaiter_k63_pages_there_and_back
set_option Elab.async false
set_option linter.all false
set_option maxRecDepth 100000
set_option maxHeartbeats 4000000
/-! rules of our own over the layer: a def's promise out of its place in the top (the promises themselves are C8's), methods called with keywords, len and repr of an own instance -/
namespace Tw
open PySem PySem.Spec PyProof.Rows L2
section
variable (P : Program) (w : World) (K : PySem.W.Frag) (mg : Str → Option Value) (base : Heap)
/-- the library's promises of a def and of a method, where every parameter is handed in -/
abbrev Cal (k : Nat) (x : Str) (sp : Sp) : Prop := C8.Cal P w K mg base k x sp []
abbrev Met (k : Nat) (C : Addr) (m : Str) (sp : Sp) : Prop := C8.Met P w K mg base k C m sp []
abbrev Mak (k : Nat) (x : Str) (C : Addr) (sp : Sp) (dvs : List V) : Prop := C8.Mak P w K mg base k x C sp dvs
/-- what is owed for a body: it can be read, and under the promise's premise its reading does what the promise tells -/
abbrev BodyOk (k : Nat) (N : List Str) (qual : Str) (body : List Stmt) (scope : Scope) (f : Addr) (sp : Sp) : Prop :=
  ∀ (cdv : Value) (A : Around) (outer : List Env) (s : Shared) (H : Hp) (vs : List V) (Q : VK) (E : XK), Room k (A.deeper (envOfC qual scope s.heap.objs.size f cdv)) → sp vs H Q E →
      ∃ t, PSs (cxOf CX0 P w K mg base N qual scope f cdv A outer s H E).nox body t ∧ t { nx := fun _ H' => Q .non H', rt := Q } (start N vs) H
/-- a method of C for n positional values (self among them) and the keywords ks; gV puts them into the parameters' order -/
structure MetG (CX : CXT) (k : Nat) (C : Addr) (m : Str) (sp : Sp) (n : Nat) (ks : List Str) (gV : List V → List V → List V) : Prop where
  ex : ∃ (f : Addr) (fd : FuncData) (ps : List Str) (g : List Value → List Value → List Value), Cls K C ∧ Meth K C m f ∧ FnOk P w K mg base CX k f fd ps sp ∧ KBn K fd ps n ks g gV
abbrev MetN (k : Nat) (C : Addr) (m : Str) (sp : Sp) (n : Nat) (ks : List Str) : Prop := MetG P w K mg base CX0 k C m sp n ks (fun us ws => us ++ ws)
end
section
variable {P : Program} {w : World} {K : PySem.W.Frag} {mg : Str → Option Value} {base : Heap} {x qual : Str} {C f : Addr} {params : Arguments} {body : List Stmt} {scope : Scope} {dvs : List V} {kws : List (Str × V)} {fd : FuncData} {N ps ks : List Str} {k n : Nat} {sp : Sp}
theorem fnok_of (F : FunD K x qual params body scope dvs kws f fd) (S : FnScope N ps scope) (len : ∀ vs H Q E, sp vs H Q E → vs.length = ps.length) (owed : BodyOk P w K mg base k N qual body scope f sp) : FnOk P w K mg base CX0 (k + 1) f fd ps sp :=
  F.ok S len fun cdv A outer s H vs Q E room h => (owed cdv A outer s H vs Q E room h).imp fun _ p => ⟨p.1.nox, p.2⟩
theorem cal_of (F : FunD K x x params body scope [] [] f fd) (hm : mg x = some (.ref f)) (b : Binds K fd ps []) (S : FnScope N ps scope) (len : ∀ vs H Q E, sp vs H Q E → vs.length = ps.length) (owed : BodyOk P w K mg base k N x body scope f sp) : Cal P w K mg base (k + 1) x sp :=
  ⟨f, fd, ps, [], fnok_of F S len owed, hm, F.kp, b, .nil⟩
theorem met_of (F : FunD K x qual params body scope dvs kws f fd) (c : Cls K C) (me : Meth K C x f) (b : Binds K fd ps []) (S : FnScope N ps scope) (len : ∀ vs H Q E, sp vs H Q E → vs.length = ps.length) (owed : BodyOk P w K mg base k N qual body scope f sp) : Met P w K mg base (k + 1) C x sp :=
  ⟨f, fd, ps, [], c, me, fnok_of F S len owed, b, .nil⟩
/-- no defaults: the handed values, put in order by g, are the parameters -/
theorem kbn_by (F : FunD K x qual params body scope [] kws f fd) (g : {α : Type} → List α → List α → List α) (hrel : ∀ {vs zs : List V} {us ws : List Value}, Vals vs us → Vals zs ws → Vals (g vs zs) (g us ws))
    (h : ∀ (kV doc pm : Value) (an : Option Addr) (cdv ct : Value) (us ws : List Value), us.length = n → ws.length = ks.length → bindArgs (PySem.W.fnOf x qual params body scope .none kV doc pm an cdv ct) ⟨us, ks.zip ws⟩ = pure (ps.zip (g us ws))) :
    KBn K fd ps n ks (fun us ws => g us ws) (fun us ws => g us ws) := by
  obtain ⟨_, _, _, kV, doc, pm, an, cdv, ct, _, rfl, _, _, none_ | ⟨some_, _⟩, _⟩ := F.ex
  · cases none_.2
    exact ⟨fun _ us ws _ l1 l2 => .of_eq (h kV doc pm an cdv ct us ws l1 l2), hrel⟩
  · cases some_ rfl
theorem kbn_of (F : FunD K x qual params body scope [] kws f fd)
    (h : ∀ (kV doc pm : Value) (an : Option Addr) (cdv ct : Value) (us ws : List Value), us.length = n → ws.length = ks.length → bindArgs (PySem.W.fnOf x qual params body scope .none kV doc pm an cdv ct) ⟨us, ks.zip ws⟩ = pure (ps.zip (us ++ ws))) :
    KBn K fd ps n ks (fun us ws => us ++ ws) (fun us ws => us ++ ws) := kbn_by F (fun us ws => us ++ ws) (fun r1 r2 => r1.append r2) h
end
section
variable {X : Cx} {CX : CXT} {k j n : Nat} {C : Addr} {x m : Str} {sp : Sp} {dvs : List V} {p pos apos : Pos} {e o : Expr} {es : List Expr} {ta : TE} {t tk : TA} {ks : List Str} {kws : List Keyword} {gV : List V → List V → List V} {E : XK} {pl : Sem Bool}
/-- C() with all its parameters left out -/
theorem pe_mk0 (c : Mak X.prog X.w X.K X.mg X.base k x C sp dvs) (hr : Room j X.A) (hk : k + 1 ≤ j) (hg : Gl X x) (hdb : (x == ("__debug__" : Str)) = false := by decide) : PE X (.Call (.Name x p) [] [] pos) (tMake C sp dvs E0 tNil) :=
  let ⟨_, _, _, _, made, F, at_, b, d⟩ := c.ex
  pe_make0 made F (hr.mono hk) hg at_ b d pass0 hdb
/-- the text o.m(e, .., k = v, ..) has no star, names its keywords ks, and goes these steps -/
structure KwForm (X : Cx) (pl : Sem Bool) (o e : Expr) (es : List Expr) (kws : List Keyword) (m : Str) (apos pos : Pos) (ks : List Str) : Prop where
  named : (backToKw pos (keywordEach kws X.env)).all (·.1.isSome) = true
  names : (backToKw pos (keywordEach kws X.env)).filterMap (·.1) = ks
  first : starEach (e :: es) X.env = (false, eval e X.env) :: starEach es X.env
  plain : ((backTo pos (starEach (e :: es) X.env)).any (·.1) || (backToKw pos (keywordEach kws X.env)).any (·.1.isNone)) = false
  steps : eval (.Call (.Attribute o m apos) (e :: es) kws pos) X.env =
    (eval o X.env >>= fun ov => standAt apos.atName >>= fun _ => holding [ov] (getMethod ov m pl) >>= fun g => callWith pos g.1 g.2 (backTo pos (starEach (e :: es) X.env)) (backToKw pos (keywordEach kws X.env)))
def tMethG (C : Addr) (m : Str) (n nk : Nat) (sp : Sp) (gV : List V → List V → List V) (E : XK) (ta : TE) (t tk : TA) : TE := fun σ H Q => ta σ H fun x H1 => ∃ a dx fs, x = .ref a ∧ H1 a = some (.ins C dx fs) ∧ fs.lookup m = none ∧
  t σ H1 fun vs H2 => tk σ H2 fun zs H3 => vs.length + 1 = n ∧ zs.length = nk ∧ sp (gV (x :: vs) zs) H3 Q E
theorem pe_mg (c : MetG X.prog X.w X.K X.mg X.base CX k C m sp n ks gV) (hx : Passes CX X E) (hr : Room j X.A) (hk : k ≤ j) (he : PE X o ta) (ha : PA X (e :: es) t) (hkw : PK X kws tk) (form : KwForm X pl o e es kws m apos pos ks) :
    PE X (.Call (.Attribute o m apos) (e :: es) kws pos) (tMethG C m n ks.length sp gV E ta t tk) := by
  obtain ⟨f, fd, ps, g, cls, me, F, kb⟩ := c.ex
  obtain ⟨named, rfl, first, plain, steps⟩ := form
  constructor
  intro pins s σ H Q I h
  refine PySem.W.methodCall_KW (pl := pl) (thn (he.run pins s σ H _ I h) ?_) steps
  rintro _ s1 ⟨_, H1, I1, obj, a, dx, fs, rfl, here, own, q⟩
  cases (show _ = Value.ref a from obj)
  refine getmeth_ok I1 here cls me own (PySem.W.callWith_KW (first := [.ref a]) (h₀ := X.base) I.ok.mod.kin me.kp named (thn (ha.run pos pins s1 σ H1 _ I1 q) ?_) plain first)
  rintro us s2 ⟨vs, H2, I2, rv, q2⟩
  refine thn (hkw.run pos pins s2 σ H2 _ I2 q2) ?_
  rintro ws s3 ⟨zs, H3, I3, rz, ln, lk, q3⟩
  exact ⟨I3.kIn, run_fnN (us := .ref a :: us) (vs := .ref a :: vs) F (hr.mono hk) kb hx I3 (.cons rfl rv) rz ln lk q3⟩
/-- .. where the method raises nothing -/
theorem pe_mg0 (c : MetG X.prog X.w X.K X.mg X.base CX0 k C m sp n ks gV) (hr : Room j X.A) (hk : k ≤ j) (he : PE X o ta) (ha : PA X (e :: es) t) (hkw : PK X kws tk) (form : KwForm X pl o e es kws m apos pos ks := by exact ⟨rfl, rfl, rfl, rfl, rfl⟩) :
    PE X (.Call (.Attribute o m apos) (e :: es) kws pos) (tMethG C m n ks.length sp gV E0 ta t tk) := pe_mg c pass0 hr hk he ha hkw form
/-- an own method without values, as a builtin finds and runs it -/
theorem own0 (c : Met X.prog X.w X.K X.mg X.base k C m sp) : ∃ f, PySem.W.findIn X.K (.ref C) m = some (some (.ref f)) ∧ PySem.W.isFn X.K (.ref f) = true ∧ FnR X.prog X.w X.K X.mg X.base CX0 k f sp := by
  obtain ⟨f, _, _, _, _, me, F, b, d⟩ := c.ex
  exact ⟨f, me.at_, me.fn, (F.raw b d).imp fun vs _ _ _ h => (List.append_nil vs).symm ▸ h⟩
/-- len(o) by an own __len__ -/
def rLenO (C : Addr) (sp : Sp) : List V → Hp → VK → Prop := fun xs H Q => ∃ a dx fs, xs = [.ref a] ∧ H a = some (.ins C dx fs) ∧ sp [.ref a] H (fun v H' => ∃ i : Int, v = .int i ∧ 0 ≤ i ∧ i < 2 ^ 63 ∧ Q (.int i) H') E0
theorem call_lenO (c : Met X.prog X.w X.K X.mg X.base k C "__len__" sp) (hr : Room j X.A) (hk : k + 1 ≤ j) : CallR X (.builtin "len") (rLenO C sp) := by
  rintro pins s σ H _ us Q I r ⟨a, dx, fs, rfl, here, q⟩
  obtain rfl := Vals.ref1 r
  obtain ⟨f, hs, hf, F⟩ := own0 c
  obtain ⟨_, J0, _⟩ := ins_get I.hok here
  obtain ⟨_, J, _⟩ := J0.look
  obtain ⟨_, hF⟩ := I.fr
  refine PySem.W.len_K hF I.ok.mod.kin J hs hf (thn (wpAny_call (SlX.run_at F (hr.mono hk).in1 I.env0.in1 pass0 I r q)) ?_)
  rintro _ s1 ⟨_, H1, I1, rv, i, rfl, low, high, q1⟩
  obtain ⟨_, rfl⟩ := rv
  exact ⟨⟨low, high⟩, .int i, H1, I1.tok _, ⟨_, rfl⟩, q1⟩
/-- repr(o) by an own __repr__ -/
def rReprO (C : Addr) (sp : Sp) : List V → Hp → VK → Prop := fun xs H Q => ∃ a dx fs, xs = [.ref a] ∧ H a = some (.ins C dx fs) ∧ sp [.ref a] H (fun v H' => ∃ z : Str, v = .str z ∧ Q (.str z) H') E0
theorem call_reprO (c : Met X.prog X.w X.K X.mg X.base k C "__repr__" sp) (hr : Room j X.A) (hk : k + 1 ≤ j) : CallR X (.builtin "repr") (rReprO C sp) := by
  rintro pins s σ H _ us Q I r ⟨a, dx, fs, rfl, here, q⟩
  obtain rfl := Vals.ref1 r
  obtain ⟨f, hs, hf, F⟩ := own0 c
  obtain ⟨_, J0, _⟩ := ins_get I.hok here
  obtain ⟨_, J, _⟩ := J0.look
  obtain ⟨_, hF⟩ := I.fr
  have room : Room k X.A.in1 := (hr.mono hk).in1
  refine PySem.W.repr_K room.units0 hF I.ok.mod.kin J hs hf (thn (wpAny_call (SlX.run_at F room I.env0.in1 pass0 I r q)) ?_)
  rintro _ s1 ⟨_, H1, I1, rv, z, rfl, q1⟩
  obtain ⟨_, rfl⟩ := rv
  exact ⟨.str z, H1, I1, ⟨_, rfl⟩, q1⟩
end
end Tw

set_option maxHeartbeats 4000000
/-! what the program's and the law's data are, and what heaps keep -/
namespace Tw
open PySem PySem.Spec PyProof.Rows L2
theorem bb_len : bootBuiltins "len" = some (.builtin "len") := by decide +kernel
theorem bb_all : bootBuiltins "all" = some (.builtin "all") := by decide +kernel
theorem bb_abs : bootBuiltins "abs" = some (.builtin "abs") := by decide +kernel
theorem bb_repr : bootBuiltins "repr" = some (.builtin "repr") := by decide +kernel
theorem bb_isinstance : bootBuiltins "isinstance" = some (.builtin "isinstance") := by decide +kernel
theorem bb_list : bootBuiltins "list" = some (.type "list") := by decide +kernel
theorem bb_tuple : bootBuiltins "tuple" = some (.type "tuple") := by decide +kernel
theorem bb_str : bootBuiltins "str" = some (.type "str") := by decide +kernel
theorem bb_bool : bootBuiltins "bool" = some (.type "bool") := by decide +kernel
theorem bb_int : bootBuiltins "int" = some (.type "int") := by decide +kernel
theorem bb_dict : bootBuiltins "dict" = some (.type "dict") := by decide +kernel
/-! isinstance with a built-in class -/
def kitT : String → String → Bool
  | "bool", "bool" => true
  | "bool", "int" => true
  | "int", "int" => true
  | "str", "str" => true
  | "list", "list" => true
  | "tuple", "tuple" => true
  | "dict", "dict" => true
  | _, _ => false
def kinds : List String := ["NoneType", "bool", "int", "str", "list", "tuple", "dict"]
theorem kitB_all : (kinds.all fun a => (kinds.drop 1).all fun b => decide (kitB a b = some (kitT a b))) = true := by decide +kernel
theorem kitB_of {a b : String} (ha : a ∈ kinds) (hb : b ∈ kinds.drop 1) : kitB a b = some (kitT a b) :=
  of_decide_eq_true (List.all_eq_true.mp (List.all_eq_true.mp kitB_all a ha) b hb)
/-- isinstance(x, T): the reading asks the kind of x -/
def rIsK (K : PySem.W.Frag) : List V → Hp → VK → Prop := fun xs H Q => ∃ (x : V) (n a : String), xs = [x, .ty n] ∧ TyX K H x (.type a) ∧ a ∈ kinds ∧ n ∈ kinds.drop 1 ∧ Q (.bl (kitT a n)) H
theorem call_isK {X : Cx} : CallR X (.builtin "isinstance") (rIsK X.K) := by
  intro pins s σ H xs us Q I r h
  obtain ⟨x, n, a, rfl, ty, ha, hn, q⟩ := h
  exact call_isi pins s σ H _ us Q I r ⟨x, .ty n, .type a, .type n, kitT a n, rfl, .ty n, ty, kit_ty (kitB_of ha hn), q⟩
/-! the same rules inside a comprehension's block, where the written part is the def's -/
section
variable {X : Cx} {K : PySem.W.Frag}
theorem ix_tupK (h : X.K = K) : IxR X (rIxT K) := h ▸ ix_tup
theorem ix_listK (h : X.K = K) : IxR X (rIxL K) := h ▸ ix_list
theorem ix_seqK (h : X.K = K) : IxR X (rIx K) := h ▸ ix_seq
theorem op_in_seqK (h : X.K = K) : OpR X (compareOp .In) (rIn K false) := h ▸ op_in_seq
theorem op_notIn_seqK (h : X.K = K) : OpR X (compareOp .NotIn) (rIn K true) := h ▸ op_notIn_seq
theorem call_len_seqK (h : X.K = K) : CallR X (.builtin "len") (fun xs H Q => ∃ p ys, xs = [.ref p] ∧ (SqL K H p ys ∨ SqT K H p ys) ∧ Q (.int ys.length) H) := h ▸ call_len_seq
theorem call_isKK (h : X.K = K) : CallR X (.builtin "isinstance") (rIsK K) := h ▸ call_isK
theorem pe_fldK {e : Expr} {f : Str} {ta : TE} {pos : Pos} (h : X.K = K) (ha : PE X e ta) (hb : attributeBase e f X.env (eval e X.env) = eval e X.env) : PE X (.Attribute e f pos) (tFld K ta f) := h ▸ pe_fld ha hb
theorem pg_tupK {es : List Expr} {k : Nat} {t : TGs} {n : Nat} {pos : Pos} (h : X.K = K) (hc : X.calm = true) (hg : PGs X es t) (hn : (assignEach es X.env).length = n := by rfl) (hst : (assignEach es X.env).findIdx? (·.1) = none := by rfl) : PG X (.Tuple es k pos) (gTup K n t) := h ▸ pg_tup hc hg hn hst
end
theorem yes_i {σ : L2.St} {H : Hp} {Q : Bool → Hp → Prop} (h : Q true H) : tYes σ H Q := h
/-! ### heaps -/
theorem same_upd {H : Hp} {p : Addr} {o : HO} (h : H p = none) : Same H (upd H p o) := fun b x e => by
  rw [upd_ne (ne_of_none e h)]
  exact e
/-- all but the place f stays -/
def Sb (f : Addr) (H H' : Hp) : Prop := ∀ b o, H b = some o → b ≠ f → H' b = some o
theorem Sb.refl {f : Addr} {H : Hp} : Sb f H H := fun _ _ h _ => h
theorem Sb.of {f : Addr} {H H' : Hp} (s : Same H H') : Sb f H H' := fun b o h _ => s b o h
theorem Sb.trans {f : Addr} {H H1 H2 : Hp} (a : Sb f H H1) (b : Sb f H1 H2) : Sb f H H2 := fun c o h n => b c o (a c o h n) n
theorem Sb.upd {f : Addr} {H : Hp} {o : HO} : Sb f H (upd H f o) := fun b x e n => by
  rw [upd_ne n]
  exact e
/-- tuples stay -/
def Kt (H H' : Hp) : Prop := ∀ b xs, H b = some (.tup xs) → H' b = some (.tup xs)
theorem Kt.of {H H' : Hp} (s : Same H H') : Kt H H' := fun b _ h => s b _ h
theorem Kt.trans {H H1 H2 : Hp} (a : Kt H H1) (b : Kt H1 H2) : Kt H H2 := fun c o h => b c o (a c o h)
theorem Sb.kt {f : Addr} {H H' : Hp} {xs : List V} (s : Sb f H H') (hf : H f = some (.lst xs)) : Kt H H' := fun b _ h => s b _ h (ne_of h hf (by intro z; cases z))
theorem Kt.upd {H : Hp} {p : Addr} {o : HO} (h : ∀ xs, H p = some (.tup xs) → o = .tup xs) : Kt H (upd H p o) := fun b xs e => by
  by_cases hb : b = p
  · subst hb
    rw [upd_same, h xs e]
  · rw [upd_ne hb]
    exact e
/-! ### the data -/
structure Wd where
  en : Str
  bg : Str
  lo : Int
  hi : Int
  la : Option Int
structure Bd where
  one : Str
  oth : Str
  bot : Option Int
  top : Option Int
/-- a web as the law keeps it -/
structure Md where
  last : Int
  own : List Str
  wd : List Wd
  bd : List Bd
def oV : Option Int → V
  | none => .non
  | some i => .int i
def Wd.row (x : Wd) : List V := [.str x.en, .str x.bg, .int x.lo, .int x.hi, oV x.la]
def Bd.row (x : Bd) : List V := [.str x.one, .str x.oth, oV x.bot, oV x.top]
def Md.pts (m : Md) : List Str := "start" :: (m.own ++ m.wd.map (·.en))
/-- tuples stand at these places -/
def Rows (H : Hp) (xs : List V) (rs : List (List V)) : Prop := Paired (fun x r => ∃ t, x = V.ref t ∧ H t = some (.tup r)) xs rs
theorem Rows.keep {H H' : Hp} (k : Kt H H') {xs : List V} {rs : List (List V)} (h : Rows H xs rs) : Rows H' xs rs := Paired.mono (fun _ _ ⟨t, e, ht⟩ => ⟨t, e, k t _ ht⟩) h
theorem Rows.len {H : Hp} {xs : List V} {rs : List (List V)} (h : Rows H xs rs) : xs.length = rs.length := Paired.length h
theorem Rows.snoc {H : Hp} {xs : List V} {rs : List (List V)} {t : Addr} {r : List V} (h : Rows H xs rs) (e : H t = some (.tup r)) : Rows H (xs ++ [.ref t]) (rs ++ [r]) := Paired.snoc h ⟨t, rfl, e⟩
theorem paired_at {α β : Type} {F : α → β → Prop} : ∀ {l : List α} {m : List β} {i : Nat} {a : α}, Paired F l m → l[i]? = some a → ∃ b, m[i]? = some b ∧ F a b
  | _, _, 0, _, .cons h _, e => by
    cases e
    exact ⟨_, rfl, h⟩
  | _, _, i + 1, a, .cons _ t, e => by
    obtain ⟨b, h1, h2⟩ := paired_at (i := i) t e
    exact ⟨b, h1, h2⟩
theorem Rows.at {H : Hp} {xs : List V} {rs : List (List V)} {i : Nat} {x : V} (h : Rows H xs rs) (e : xs[i]? = some x) : ∃ t r, x = .ref t ∧ rs[i]? = some r ∧ H t = some (.tup r) := by
  obtain ⟨r, h1, t, h2, h3⟩ := paired_at h e
  exact ⟨t, r, h2, h1, h3⟩
/-- a Web's attributes -/
def wf (last : Int) (a b c : Addr) : List (Str × V) := [("by", .int last), ("moment_rows", .ref a), ("span_rows", .ref b), ("tie_rows", .ref c)]
theorem wf_by {l : Int} {a b c : Addr} : (wf l a b c).lookup ("by" : Str) = some (.int l) := by
  unfold wf
  rw [List.lookup_cons_self]
theorem wf_m {l : Int} {a b c : Addr} : (wf l a b c).lookup ("moment_rows" : Str) = some (.ref a) := by
  unfold wf
  rw [List.lookup_cons, show (("moment_rows" : Str) == "by") = false by decide +kernel, List.lookup_cons_self]
theorem wf_s {l : Int} {a b c : Addr} : (wf l a b c).lookup ("span_rows" : Str) = some (.ref b) := by
  unfold wf
  rw [List.lookup_cons, show (("span_rows" : Str) == "by") = false by decide +kernel, List.lookup_cons, show (("span_rows" : Str) == "moment_rows") = false by decide +kernel, List.lookup_cons_self]
theorem wf_t {l : Int} {a b c : Addr} : (wf l a b c).lookup ("tie_rows" : Str) = some (.ref c) := by
  unfold wf
  rw [List.lookup_cons, show (("tie_rows" : Str) == "by") = false by decide +kernel, List.lookup_cons, show (("tie_rows" : Str) == "moment_rows") = false by decide +kernel, List.lookup_cons, show (("tie_rows" : Str) == "span_rows") = false by decide +kernel, List.lookup_cons_self]
def webAttrs : List Str := ["by", "moment_rows", "span_rows", "tie_rows"]
theorem wf_no {l : Int} {a b c : Addr} {m : Str} (h : webAttrs.all (fun x => !(m == x)) = true) : (wf l a b c).lookup m = none := by
  unfold webAttrs at h
  simp only [List.all_cons, List.all_nil, Bool.and_true, Bool.and_eq_true, Bool.not_eq_true'] at h
  obtain ⟨h1, h2, h3, h4⟩ := h
  unfold wf
  rw [List.lookup_cons, h1, List.lookup_cons, h2, List.lookup_cons, h3, List.lookup_cons, h4]
  rfl
/-- a web stands at p -/
structure WebAt (C : Addr) (H : Hp) (p : Addr) (m : Md) : Prop where
  ex : ∃ (dx a b c : Addr) (ws bs : List V), H p = some (.ins C dx (wf m.last a b c)) ∧ H a = some (.tup (m.own.map V.str)) ∧ H b = some (.tup ws) ∧ Rows H ws (m.wd.map Wd.row) ∧ H c = some (.tup bs) ∧ Rows H bs (m.bd.map Bd.row)
  len : m.own.length ≤ 10 ∧ m.wd.length ≤ 4 ∧ m.bd.length ≤ 40
  last : 1 ≤ m.last ∧ m.last ≤ 1000
theorem WebAt.keep {C : Addr} {H H' : Hp} {p : Addr} {m : Md} (h : WebAt C H p m) (hp : ∀ dx fs, H p = some (.ins C dx fs) → H' p = some (.ins C dx fs)) (k : Kt H H') : WebAt C H' p m := by
  obtain ⟨dx, a, b, c, ws, bs, h1, h2, h3, h4, h5, h6⟩ := h.ex
  exact ⟨⟨dx, a, b, c, ws, bs, hp _ _ h1, k _ _ h2, k _ _ h3, h4.keep k, k _ _ h5, h6.keep k⟩, h.len, h.last⟩
theorem WebAt.same {C : Addr} {H H' : Hp} {p : Addr} {m : Md} (h : WebAt C H p m) (s : Same H H') : WebAt C H' p m := h.keep (fun _ _ e => s _ _ e) (Kt.of s)
theorem WebAt.sb {C : Addr} {H H' : Hp} {p f : Addr} {m : Md} {xs : List V} (h : WebAt C H p m) (s : Sb f H H') (hf : H f = some (.lst xs)) : WebAt C H' p m :=
  h.keep (fun _ _ e => s _ _ e (ne_of e hf (by intro z; cases z))) (s.kt hf)
/-- what is a name -/
abbrev letters : Str := "abcdefghijklmnopqrstuvwxyz"
def Nm (z : Str) : Prop := 1 ≤ z.length ∧ z.length ≤ 8 ∧ ∀ c ∈ z.cps.toList, c ∈ letters.cps.toList
end Tw

set_option maxHeartbeats 4000000
/-! a try with several clauses, each of one, two or three classes, each with a name -/
namespace Tw
open PySem PySem.Spec PyProof.Rows L2
/-- the classes that a clause names -/
inductive Cls3 (X : Cx) : Expr → List Value → Prop
  | one {x : Str} {c : Value} {np : Pos} (h : Names X x c) : Cls3 X (.Name x np) [c]
  | two {x y : Str} {c d : Value} {p q r : Pos} {kk : Nat} (h1 : Names X x c) (h2 : Names X y d) : Cls3 X (.Tuple [.Name x p, .Name y q] kk r) [c, d]
  | three {x y z : Str} {c d e : Value} {p q r t : Pos} {kk : Nat} (h1 : Names X x c) (h2 : Names X y d) (h3 : Names X z e) : Cls3 X (.Tuple [.Name x p, .Name y q, .Name z r] kk t) [c, d, e]
theorem exm1 {K : PySem.W.Frag} {cls c : Value} {b : Bool} (h : PySem.W.exmAny K cls [c] = some b) : PySem.W.exmOne K cls c = some b := by
  obtain ⟨b1, d1, h1, h2, e⟩ := PySem.W.exmAny_cons h
  have e2 : d1 = false := (Option.some.inj h2).symm
  rw [e, e2, Bool.or_false]
  exact h1
section
variable {X : Cx} {a : Addr} {pn : List (Addr × Obj)} {σ : L2.St} {H : Hp}
theorem named {s : Shared} {x : Str} {c : Value} {np : Pos} {Q : Value → Shared → Prop} {E : Value → Shared → Prop} (S : Inv (X.suite a pn) [] σ H s) (h : Names X x c) (q : Q c s) : wpAny (model X.prog X.w) (X.A.mark (some (.ref a))) (eval (.Name x np) X.env) Q E s := by
  obtain ⟨hg, hd, hm | ⟨hm, hv, hn⟩⟩ := h
  · exact ld_glob (X := X.suite a pn) S hg hm q hd
  · exact ld_blt (X := X.suite a pn) S hg hm hv q hn hd
/-- whether a clause takes the exception; a tuple of classes is laid -/
theorem cls3_test {s : Shared} {te : Expr} {cs : List Value} {cls : Value} {b : Bool} {Q : Bool → Shared → Prop} {E : Value → Shared → Prop} (T : Cls3 X te cs) (S : Inv (X.suite a pn) [] σ H s) (LT : PySem.W.Looks (model X.prog X.w) s.heap (typeOf (.ref a)) cls) (hb : PySem.W.exmAny X.K cls cs = some b)
    (q : ∀ h', (∀ b o, s.heap.get? b = some o → h'.get? b = some o) → Q b { s with heap := h' }) :
    wpAny (model X.prog X.w) (X.A.mark (some (.ref a))) (eval te X.env) (fun c s₁ => wpAny (model X.prog X.w) (X.A.mark (some (.ref a))) (excMatches (.ref a) c) Q E s₁) E s := by
  have kin : X.K.In s.heap := S.kIn
  cases T with
  | one h => exact named S h ((PySem.W.exm_one kin LT (exm1 hb)).here (q s.heap fun _ _ z => z))
  | @two x y c d p1 p2 p3 kk h1 h2 =>
    have kp : ∀ b o, s.heap.get? b = some o → (s.heap.push { cls := .type "tuple", data := .seq [c, d].toArray }).get? b = some o := fun b o z => Heap.get?_push_of_some _ z
    refine wpAny_Tuple (wpAny_items_cons (named S h1 (wpAny_items_cons (named S h2 (wpAny_items_nil ⟨by show 2 ≤ sizeLine; decide, ?_⟩)))))
    exact (PySem.W.exm_tup2 (kin.keeps kp) (LT.keeps kp) (Heap.get?_push_size s.heap rfl) hb).here (q _ kp)
  | @three x y z c d e p1 p2 p3 p4 kk h1 h2 h3 =>
    have kp : ∀ b o, s.heap.get? b = some o → (s.heap.push { cls := .type "tuple", data := .seq [c, d, e].toArray }).get? b = some o := fun b o z => Heap.get?_push_of_some _ z
    refine wpAny_Tuple (wpAny_items_cons (named S h1 (wpAny_items_cons (named S h2 (wpAny_items_cons (named S h3 (wpAny_items_nil ⟨by show 3 ≤ sizeLine; decide, ?_⟩)))))))
    exact (PySem.W.exm_tup3 (kin.keeps kp) (LT.keeps kp) (Heap.get?_push_size s.heap rfl) hb).here (q _ kp)
end
theorem fly_more {B h h' : Heap} {l : List Env} {e : Addr} {Z : Obj → Prop} (f : HandSPX.FlyingZ B l e Z h) (k : ∀ b o, h.get? b = some o → h'.get? b = some o) : HandSPX.FlyingZ B l e Z h' := by
  obtain ⟨f1, f2, f3, oe, vs, T, oT, ts, t1, t2, t3, t4, t5, t6, t7, t8⟩ := f
  exact ⟨fun b o z => k b o (f1 b o z), f2, f3.of_keeps fun b o z _ => ⟨o, k b o z, rfl⟩, oe, vs, T, oT, ts, k _ _ t1, t2, t3, t4, t5, t6, k _ _ t7, t8⟩
abbrev Hdl := List Value × (Addr → Value → Option Addr → TS)
/-- how a suite with a name in slot i ends -/
def endsAs (i : Nat) (D : Ends) : Ends := { nx := fun σ H => D.nx (σ.set i none) H, rt := D.rt, bk := fun σ H => D.bk (σ.set i none) H, ct := fun σ H => D.ct (σ.set i none) H }
/-- what the clauses wish of an exception, one behind the other -/
def wAsM (K : PySem.W.Frag) (i : Nat) (Wo : WX) (D : Ends) : List Hdl → WX
  | [] => Wo
  | (cs, ts) :: r => fun cls d σ H => ∃ b, PySem.W.exmAny K cls cs = some b ∧ (b = true → ∀ a, H a = none → ts a cls d (endsAs i D) (σ.set i (some (.ref a))) H) ∧ (b = false → wAsM K i Wo D r cls d σ H)
inductive HdAs (X : Cx) (n : Str) : List ExceptHandler → List Hdl → Prop
  | nil : HdAs X n [] []
  | cons {te : Expr} {cs : List Value} {ts : Addr → Value → Option Addr → TS} {st : Stmt} {su : List Stmt} {pos : Pos} {hds : List ExceptHandler} {l : List Hdl} (hc : Cls3 X te cs)
      (hsu : ∀ (a : Addr) (oe : Obj) (cls : Value) (d : Option Addr) (pn : List (Addr × Obj)), Zc cls d oe → (∃ vs, oe.data = .fields vs) → PSs (X.suite a ((a, oe) :: pn)) (st :: su) (ts a cls d)) (r : HdAs X n hds l) :
      HdAs X n (.ExceptHandler (some te) (some n) (st :: su) pos :: hds) ((cs, ts) :: l)
/-- an exception a that has come down at this frame, as the heap h has it; sI: the state without it -/
structure Down (X : Cx) (pins : List (Addr × Obj)) (σ : L2.St) (H : Hp) (sI s' : Shared) (B : Heap) (a : Addr) (cls : Value) (d : Option Addr) (h : Heap) : Prop where
  inv : Inv X pins σ H sI
  ground : ∀ b o, sI.heap.get? b = some o → b ∉ frs X.stack → B.get? b = some o
  fly : HandSPX.FlyingZ B (X.env :: X.outer) a (Zc cls d) h
  up : sI.heap.UpToSlots h
  free : H a = none
  os : s'.os = sI.os
  bare : AllBare s'.gens
/-- what is to be done with an exception of the body -/
def onCatch (X : Cx) (pins : List (Addr × Obj)) (D : Ends) (hds : List ExceptHandler) (e : Value) (s : Shared) : Prop :=
  wpAny (model X.prog X.w) X.A (noteFrame e X.env) (fun _ s1 => wpAny (model X.prog X.w) X.A (setFlight e none) (fun _ s2 => wpAny (model X.prog X.w) X.A (handleBy e X.env hds) (SP X pins D) X.xe s2) X.xe s1) X.xe s
section
variable {X : Cx} {pins : List (Addr × Obj)} {σ : L2.St} {H : Hp} {sI s' : Shared} {B h h' : Heap} {a : Addr} {cls : Value} {d : Option Addr} {i : Nat} {n : Str} {Wo : WX} {D : Ends} {hds : List ExceptHandler} {l : List Hdl}
theorem Down.more (dn : Down X pins σ H sI s' B a cls d h) (k : ∀ b o, h.get? b = some o → h'.get? b = some o) : Down X pins σ H sI s' B a cls d h' := { dn with fly := fly_more dn.fly k, up := dn.up.trans (Heap.UpToSlots.of_keeps k) }
/-- its suite may begin -/
theorem Down.suite (dn : Down X pins σ H sI s' B a cls d h) (hf : X.env.frame = some X.env.locals) : ∃ oe, h.get? a = some oe ∧ Zc cls d oe ∧ (∃ vs, oe.data = .fields vs) ∧ Inv (X.suite a ((a, oe) :: (X.pn ++ pins))) [] σ H { s' with heap := h } := by
  obtain ⟨oe, vs, at_, zc, hd⟩ := dn.fly.there
  have noFrame : ∀ e ∈ X.env :: X.outer, e.frame ≠ some a := fun e he hfr => by
    obtain ⟨_, o, ho, no⟩ := dn.fly.2.2.1.mem (List.mem_filterMap.mpr ⟨e, he, hfr⟩)
    cases ho.symm.trans at_
    exact no _ hd
  refine ⟨oe, at_, zc, ⟨vs, hd⟩, (dn.inv.landed (s' := { s' with heap := h }) dn.ground dn.fly.1 dn.up dn.os dn.bare).suite at_ hd dn.free ?_ ?_⟩
  · rintro rfl
    exact noFrame X.env (.head _) hf
  · intro inFs
    obtain ⟨e, he, hfr⟩ := List.mem_filterMap.mp inFs
    exact noFrame e (.tail _ he) hfr
/-- no clause takes it: it goes on -/
theorem Down.pass (dn : Down X pins σ H sI s' B a cls d h) (hs : X.stack = X.env :: X.outer) (hf : X.env.frame = some X.env.locals) (tk : Takes X Wo) (wish : Wo cls d σ H) : wpAny (model X.prog X.w) X.A (handleBy (.ref a) X.env []) (SP X pins D) X.xe { s' with heap := h } := by
  have goes : ∀ h4, HandSPX.HeldZ B (X.env :: X.outer) a (Zc cls d) X.env.locals h4 → h.UpToSlots h4 → X.xe (.ref a) { s' with heap := h4 } := fun h4 held up4 =>
    tk _ _ ⟨a, B, sI, pins, σ, H, cls, d, rfl, dn.inv, dn.ground, dn.up.trans up4, .inr (.inr (hs ▸ held)), dn.free, dn.os, dn.bare, wish⟩
  obtain ⟨_, _, T, _, _, at_, _, hd, traced, _⟩ := dn.fly.2.2.2
  refine wpAny_handleBy_nil ?_
  unfold PySem.passOn
  rw [hf]
  refine wpAny_bind (wpAny_field at_ hd traced ?_)
  rw [if_neg (by simp)]
  repeat (first | with_reducible refine HandSPX.setFlight_upZ dn.fly fun h4 held up4 => ?_ | with_reducible refine wpAny_throw (goes _ held up4) | wp_step)
/-- behind a suite its name goes -/
theorem suite_ends {q : Addr × Obj} {f : Flow} {s6 : Shared} {pos : Pos} (ok : X.Ok) (hN : X.N.Nodup) (hi : X.N[i]? = some n) (hln : X.env.kindOf n = some .local) (ended : SP (X.suite a (q :: (X.pn ++ pins))) [] (endsAs i D) f s6) :
    wpAny (model X.prog X.w) X.A (do bindName X.env n .none; unbindBehindTheSuite X.env n pos) (fun _ s7 => SP X pins D f s7) X.xe s6 := by
  cases f with
  | ret u =>
    obtain ⟨v, _, H6, S6, r, q6⟩ := ended
    exact gone_ok (S6.unsuite ok) hN hi hln fun s7 J => ⟨v, _, H6, J, r, q6⟩
  | next =>
    obtain ⟨_, H6, S6, q6⟩ := ended
    exact gone_ok (S6.unsuite ok) hN hi hln fun s7 J => ⟨_, H6, J, q6⟩
  | brk =>
    obtain ⟨_, H6, S6, q6⟩ := ended
    exact gone_ok (S6.unsuite ok) hN hi hln fun s7 J => ⟨_, H6, J, q6⟩
  | cont =>
    obtain ⟨_, H6, S6, q6⟩ := ended
    exact gone_ok (S6.unsuite ok) hN hi hln fun s7 J => ⟨_, H6, J, q6⟩
theorem Down.clauses (hs : X.stack = X.env :: X.outer) (hf : X.env.frame = some X.env.locals) (hN : X.N.Nodup) (hi : X.N[i]? = some n) (hln : X.env.kindOf n = some .local) (tk : Takes X Wo) (hh : HdAs X n hds l) :
    ∀ {h : Heap}, Down X pins σ H sI s' B a cls d h → wAsM X.K i Wo D l cls d σ H → wpAny (model X.prog X.w) X.A (handleBy (.ref a) X.env hds) (SP X pins D) X.xe { s' with heap := h } := by
  induction hh with
  | nil => exact fun dn wish => dn.pass hs hf tk wish
  | cons hc hsu _ further =>
    rintro h dn ⟨b, fits, yes, no⟩
    obtain ⟨oe, at_, zc, _, S⟩ := dn.suite hf
    have kind : PySem.W.Looks (model X.prog X.w) h (typeOf (.ref a)) cls := fun _ _ _ _ k q => wpAny_typeOf_ref (k _ _ at_) (by rw [zc.1]; exact q)
    refine wpAny_handleBy_cons (codeAny_handlers_test (cls3_test hc S kind fits fun h6 k6 => ?_)) (fun q => nomatch q)
    cases b with
    | false => exact further (dn.more k6) (no rfl)
    | true =>
      refine codeAny_handlers_suite_as (HandSPX.lands_againZ (dn.more k6).fly fun h4 fl4 up4 => ?_)
      obtain ⟨o4, _, zc4, hd4, S4⟩ := Down.suite { dn.more k6 with fly := fl4, up := (dn.more k6).up.trans up4 } hf
      refine store_ok (X := X.suite a ((a, o4) :: (X.pn ++ pins))) (v := .ref a) S4 hN hi (.inl hln) rfl (fun s5 S5 => ?_) (.inr hln)
      exact wpAny_mono ((hsu a o4 cls d (X.pn ++ pins) zc4 hd4).run [] s5 _ H _ S5 (yes rfl a dn.free)) (fun f s6 ended => suite_ends dn.inv.ok hN hi hln ended) fun _ _ z => z.elim
end
section
variable {X : Cx} {i : Nat} {n : Str} {body : List Stmt} {h₀ : ExceptHandler} {hds : List ExceptHandler} {l : List Hdl} {pos : Pos} {tb : WX → TS} {Wo : WX}
/-- try: body, except (A, B) as n: .., except C as n: .. -/
theorem ps_tryM (hs : X.stack = X.env :: X.outer) (hf : X.env.frame = some X.env.locals) (hN : X.N.Nodup) (hi : X.N[i]? = some n) (hln : X.env.kindOf n = some .local) (tk : Takes X Wo)
    (hb : ∀ (W : WX) (pn : List (Addr × Obj)) (xe : Value → Shared → Prop), Takes (X.tr pn xe) W → PassesOwn (model X.prog X.w) X.A X.env xe → PSs (X.tr pn xe) body (tb W)) (hh : HdAs X n (h₀ :: hds) l) :
    PS X (.Try body (h₀ :: hds) [] [] pos) (fun D σ H => tb (fun cls d σ' H' => σ'.length = X.N.length → wAsM X.K i Wo D l cls d σ' H') D σ H) := by
  constructor
  intro pins s σ H D I h
  have ok := I.ok
  have caught : Takes (X.tr (X.pn ++ pins) (onCatch X pins D (h₀ :: hds))) (fun cls d σ' H' => σ'.length = X.N.length → wAsM X.K i Wo D l cls d σ' H') := by
    rintro _ s1 ⟨a, B, sI, _, σ1, H1, cls, d, rfl, J, ground, up, sky, free, os, bare, wish⟩
    exact Sky.land Zc.steady (ok.frames.trans (congrArg some hs)) hf (hs ▸ sky) fun h3 fly up3 => Down.clauses hs hf hN hi hln tk hh ⟨J.ofTry ok, ground, fly, up.trans up3, free, os, bare⟩ (wish J.len)
  refine wpAny_Try_except (wpAny_mono ((hb _ _ _ caught PassesOwn.looking).run [] s σ H D (I.toTry _) h) (fun f s1 ended => ?_) fun _ _ z => z)
  cases f with
  | ret u =>
    obtain ⟨v, σ1, H1, J, r, q⟩ := ended
    exact ⟨v, σ1, H1, J.ofTry ok, r, q⟩
  | next =>
    obtain ⟨σ1, H1, J, q⟩ := ended
    exact wpAny_execs_nil ⟨σ1, H1, J.ofTry ok, q⟩
  | brk =>
    obtain ⟨σ1, H1, J, q⟩ := ended
    exact ⟨σ1, H1, J.ofTry ok, q⟩
  | cont =>
    obtain ⟨σ1, H1, J, q⟩ := ended
    exact ⟨σ1, H1, J.ofTry ok, q⟩
end
end Tw

set_option maxHeartbeats 4000000
/-! own exceptions: fields read in a suite, __init__ called through its class, defs that raise, the head with tables -/
namespace Tw
open PySem PySem.Spec PyProof.Rows L2
/-! ### a field of the caught exception, whatever its class -/
def tXw (K : PySem.W.Frag) (a : Addr) (cls : Value) (d : Option Addr) (f : Str) (te : TE) : TE := fun σ H Q => te σ H fun x H1 => x = .ref a ∧ ∃ (C dd : Addr) (fs : List (Str × V)) (v : V), cls = .ref C ∧ XfC K C ∧ PySem.W.findIn K (.ref C) f = some none ∧ d = some dd ∧ H1 dd = some (.xd fs) ∧ fs.lookup f = some v ∧ Q v H1
theorem xd_field {P : Program} {w : World} {H : Hp} {h : Heap} {dd : Addr} {fs : List (Str × V)} {n : Str} {v : V} (hok : HOk P w H h) (at_ : H dd = some (.xd fs)) (l : fs.lookup n = some v) : ∃ od z, h.get? dd = some od ∧ PySem.W.lookIn n od = some (some z) ∧ RelV v z := by
  obtain ⟨m, ns, rel⟩ := (show ObjOk P w H h dd (.xd fs) from hok dd _ at_)
  obtain ⟨od, ho, look⟩ := lookIn_ns ns
  obtain ⟨z, hz, rz⟩ := RelO.some_of (v := v) (o := m n) (l ▸ rel n)
  exact ⟨od, z, ho, (look n).trans (congrArg some hz), rz⟩
theorem pe_xw {X : Cx} {a : Addr} {oe : Obj} {cls : Value} {d : Option Addr} {pn : List (Addr × Obj)} {e : Expr} {te : TE} {pos : Pos} {n : Str} (hz : Zc cls d oe) (hf : ∃ vs, oe.data = .fields vs) (he : PE (X.suite a ((a, oe) :: pn)) e te)
    (hb : attributeBase e n X.env (eval e X.env) = eval e X.env := by rfl) : PE (X.suite a ((a, oe) :: pn)) (.Attribute e n pos) (tXw X.K a cls d n te) := by
  constructor
  intro pins s σ H Q I h
  refine attr_of hb (thn (he.run pins s σ H _ I h) ?_)
  rintro _ s1 ⟨_, H1, I1, obj, rfl, C, dd, fs, v, rfl, T, no, rfl, ea, l, q⟩
  cases (show _ = Value.ref a from obj)
  obtain ⟨od, z, ho, look, rz⟩ := xd_field I1.hok ea l
  obtain ⟨vs, hd⟩ := hf
  have caught : s1.heap.get? a = some oe := (I1.pin (a, oe) (by simp)).1
  have whole : PySem.W.InstAt s1.heap a oe C (some od) := ⟨caught, hz.1, by simp [PySem.W.notCls, hd], by simpa [hz.2] using ho⟩
  exact HandSPX.exc_get I1.kIn whole T.ga T.gg T.exC (PySem.W.findObj_own T.hdC no rfl look) (handed_of rz) ⟨v, H1, I1.tok _, rz, q⟩
/-! ### the forms of a text: plain values only -/
/-- x(e, ..) -/
structure Flat (X : Cx) (x : Str) (e : Expr) (es : List Expr) (pos : Pos) : Prop where
  dbg : (x == ("__debug__" : Str)) = false
  first : starEach (e :: es) X.env = (false, eval e X.env) :: starEach es X.env
  plain : (backTo pos (starEach es X.env)).any (·.1) = false
/-- o.m(e, ..) -/
structure MeForm (X : Cx) (pl : Sem Bool) (o e : Expr) (es : List Expr) (m : Str) (apos pos : Pos) : Prop where
  first : starEach (e :: es) X.env = (false, eval e X.env) :: starEach es X.env
  plain : (backTo pos (starEach es X.env)).any (·.1) = false
  steps : eval (.Call (.Attribute o m apos) (e :: es) [] pos) X.env =
    (eval o X.env >>= fun ov => standAt apos.atName >>= fun _ => holding [ov] (getMethod ov m pl) >>= fun g => callWith pos g.1 g.2 (backTo pos (starEach (e :: es) X.env)) (backToKw pos (keywordEach [] X.env)))
/-! ### x.m(..): a def read off a class -/
structure ClsDef (K : PySem.W.Frag) (C f : Addr) (m : Str) : Prop where
  reads : PySem.W.readsIn K C (.type "type") = true
  special : PySem.W.specialIn K (.ref C) "__getattribute__" = some (some (.builtin "type.__getattribute__"))
  find : PySem.W.findCls K (.ref C) (.type "type") m = some (.val (.ref f))
section
variable {X : Cx} {k j : Nat} {f C : Addr} {fd : FuncData} {ps : List Str} {sp : Sp} {x m : Str} {p1 p2 pos : Pos} {e : Expr} {es : List Expr} {t : TA} {pl : Sem Bool}
theorem pe_ci (T : ClsDef X.K C f m) (hg : Gl X x) (hm : X.mg x = some (.ref C)) (hk : PySem.W.keepIn X.K (.ref f) = true) (F : FnOk X.prog X.w X.K X.mg X.base CX0 k f fd ps sp) (hr : Room j X.A) (hj : k ≤ j) (hb : Binds X.K fd ps []) (ha : PA X (e :: es) t)
    (form : MeForm X pl (.Name x p1) e es m p2 pos := by exact ⟨rfl, rfl, rfl⟩) (hdb : (x == ("__debug__" : Str)) = false := by decide) :
    PE X (.Call (.Attribute (.Name x p1) m p2) (e :: es) [] pos) (tCall sp [] E0 t) := by
  constructor
  intro pins s σ H Q I h
  refine PySem.W.methodCall_KW (pl := pl) (ld_glob I hg hm (PySem.W.method_cls I.kIn T.special (PySem.W.cls_value I.kIn T.reads T.find rfl ?_)) hdb) form.steps
  refine PySem.W.callWith_K (first := []) (h₀ := X.base) I.ok.mod.kin hk (thn (ha.run pos pins _ σ H _ (I.tok _) h) ?_) form.first form.plain
  rintro us s2 ⟨vs, H2, I2, r, q2⟩
  exact ⟨I2.kIn, run_fn (us := us) (vs := vs) F (hr.mono hj) hb .nil pass0 I2 r q2⟩
end
/-! ### defs that raise -/
structure CalX (P : Program) (w : World) (K : PySem.W.Frag) (mg : Str → Option Value) (base : Heap) (k : Nat) (x : Str) (sp : Sp) : Prop where
  ex : ∃ (f : Addr) (fd : FuncData) (ps : List Str), FnOk P w K mg base (L2.CX P w) k f fd ps sp ∧ mg x = some (.ref f) ∧ PySem.W.keepIn K (.ref f) = true ∧ Binds K fd ps []
structure MetX (P : Program) (w : World) (K : PySem.W.Frag) (mg : Str → Option Value) (base : Heap) (k : Nat) (C : Addr) (m : Str) (sp : Sp) : Prop where
  ex : ∃ (f : Addr) (fd : FuncData) (ps : List Str), Cls K C ∧ Meth K C m f ∧ FnOk P w K mg base (L2.CX P w) k f fd ps sp ∧ Binds K fd ps []
/-- the body's part, what is raised told -/
abbrev BodyX (P : Program) (w : World) (K : PySem.W.Frag) (mg : Str → Option Value) (base : Heap) (k : Nat) (N : List Str) (qual : Str) (body : List Stmt) (scope : Scope) (f : Addr) (sp : Sp) : Prop :=
  ∀ (cdv : Value) (A : Around) (outer : List Env) (s : Shared) (H : Hp) (vs : List V) (Q : VK) (E : XK), Room k (A.deeper (envOfC qual scope s.heap.objs.size f cdv)) → sp vs H Q E →
    Takes (cxOf (L2.CX P w) P w K mg base N qual scope f cdv A outer s H E) (fun cls d _ H' => E cls d H') → ∃ t, PSs (cxOf (L2.CX P w) P w K mg base N qual scope f cdv A outer s H E) body t ∧ t { nx := fun _ H' => Q .non H', rt := Q } (start N vs) H
section
variable {P : Program} {w : World} {K : PySem.W.Frag} {mg : Str → Option Value} {base : Heap} {x qual : Str} {params : Arguments} {body : List Stmt} {scope : Scope} {f C : Addr} {fd : FuncData} {N ps : List Str} {k : Nat} {sp : Sp} {dvs : List V} {kws : List (Str × V)}
theorem fnx_of (F : FunD K x qual params body scope dvs kws f fd) (S : FnScope N ps scope) (len : ∀ vs H Q E, sp vs H Q E → vs.length = ps.length) (hb : BodyX P w K mg base k N qual body scope f sp) : FnOk P w K mg base (L2.CX P w) (k + 1) f fd ps sp :=
  F.ok S len fun cdv A outer s H vs Q E hr hsp => hb cdv A outer s H vs Q E hr hsp (takes_of rfl rfl rfl rfl)
theorem calx_of (F : FunD K x x params body scope [] [] f fd) (hm : mg x = some (.ref f)) (b : Binds K fd ps []) (S : FnScope N ps scope) (len : ∀ vs H Q E, sp vs H Q E → vs.length = ps.length) (hb : BodyX P w K mg base k N x body scope f sp) : CalX P w K mg base (k + 1) x sp :=
  ⟨f, fd, ps, fnx_of F S len hb, hm, F.kp, b⟩
theorem metx_of (F : FunD K x qual params body scope dvs kws f fd) (c : Cls K C) (me : Meth K C x f) (b : Binds K fd ps []) (S : FnScope N ps scope) (len : ∀ vs H Q E, sp vs H Q E → vs.length = ps.length) (hb : BodyX P w K mg base k N qual body scope f sp) : MetX P w K mg base (k + 1) C x sp :=
  ⟨f, fd, ps, c, me, fnx_of F S len hb, b⟩
end
section
variable {X : Cx} {k j : Nat} {C : Addr} {x m : Str} {sp : Sp} {p pos apos : Pos} {e o : Expr} {es : List Expr} {ta : TE} {t : TA} {W : WX} {E : XK}
theorem pe_cx (c : CalX X.prog X.w X.K X.mg X.base k x sp) (tk : Takes X W) (hW : ∀ cls d σ H, E cls d H → W cls d σ H) (hr : Room j X.A) (hk : k ≤ j) (hg : Gl X x) (ha : PA X (e :: es) t) (form : Flat X x e es pos := by exact ⟨by decide, rfl, rfl⟩) :
    PE X (.Call (.Name x p) (e :: es) [] pos) (tCall sp [] E t) :=
  let ⟨_, _, _, F, at_, kept, b⟩ := c.ex
  pe_call F (hr.mono hk) hg at_ kept b .nil (passes_call tk hW) ha form.dbg form.first form.plain
theorem pe_mx {pl : Sem Bool} (c : MetX X.prog X.w X.K X.mg X.base k C m sp) (tk : Takes X W) (hW : ∀ cls d σ H, E cls d H → W cls d σ H) (hr : Room j X.A) (hk : k ≤ j) (he : PE X o ta) (ha : PA X (e :: es) t) (form : MeForm X pl o e es m apos pos := by exact ⟨rfl, rfl, rfl⟩) :
    PE X (.Call (.Attribute o m apos) (e :: es) [] pos) (tMeth C m sp [] E ta t) :=
  let ⟨_, _, _, cls, me, F, b⟩ := c.ex
  pe_meth (pl := pl) he cls me F (hr.mono hk) b .nil (passes_call tk hW) ha form.first form.plain form.steps
end
/-! ### the head: facts, one more Bool, the tables of some defs -/
def frY (g : Addr → Option Obj) (n : Nat) : PySem.W.Frag := He.frT g (He.asD g n ++ [cStatics])
structure SaysY (fa : List He.Fa) (fn : List He.DefD) (tf : List He.Defn) (ex : PySem.W.Frag → Bool) (h : Heap) (K : PySem.W.Frag) : Prop where
  d : He.SaysD fa fn K
  more : ex K = true
  code : ∀ p ∈ tf, PySem.W.codeHdIn K (He.cT K p).1 (He.cT K p).2 = true
  out : ∀ p ∈ tf, K.lookup (He.cT K p).2 = none
  empty : ∀ p ∈ tf, h.get? (He.cT K p).2 = some { cls := .none, data := .fields #[] }
abbrev AlY : Type := He.AlD × Bool
def obsY (n : Nat) (fa : List He.Fa) (fn : List He.DefD) (tf : List He.Defn) (ex : PySem.W.Frag → Bool) (g : Addr → Option Obj) : AlY := (He.obsD fa fn (frY g n), ex (frY g n) && He.tabsB g tf (frY g n))
theorem saysY_of {n : Nat} {fa : List He.Fa} {fn : List He.DefD} {tf : List He.Defn} {ex : PySem.W.Frag → Bool} {h : Heap} (e : obsY n fa fn tf ex h.get? = (He.valD fn, true)) : SaysY fa fn tf ex h (frY h.get? n) := by
  have e1 : He.obsD fa fn (frY h.get? n) = He.valD fn := congrArg (fun z : AlY => z.1) e
  have e2 : (ex (frY h.get? n) && He.tabsB h.get? tf (frY h.get? n)) = true := congrArg (fun z : AlY => z.2) e
  obtain ⟨h1, h2⟩ := Bool.and_eq_true_iff.mp e2
  have tab : ∀ p ∈ tf, PySem.W.codeHdIn (frY h.get? n) (He.cT (frY h.get? n) p).1 (He.cT (frY h.get? n) p).2 = true ∧ ∃ o, h.get? (He.cT (frY h.get? n) p).2 = some o ∧ He.emptyTab o = true := fun p hp => by
    obtain ⟨h3, h4⟩ := Bool.and_eq_true_iff.mp (List.all_eq_true.mp h2 p hp)
    refine ⟨h3, ?_⟩
    cases q : h.get? (He.cT (frY h.get? n) p).2 with
    | none => rw [q] at h4; cases h4
    | some o => rw [q] at h4; exact ⟨o, rfl, h4⟩
  refine ⟨e1, h1, fun p hp => (tab p hp).1, fun p hp => ?_, fun p hp => ?_⟩
  · obtain ⟨_, o, q, z⟩ := tab p hp
    exact He.frT_none q z
  · obtain ⟨_, o, q, z⟩ := tab p hp
    rw [q]
    exact congrArg some (He.emptyTab_eq z)
def hookY (n : Nat) (fa : List He.Fa) (fn : List He.DefD) (tf : List He.Defn) (ex : PySem.W.Frag → Bool) : PySem.W.Hook where
  α := AlY
  obs := fun s => obsY n fa fn tf ex s.heap.get?
  val := fun _ => (He.valD fn, true)
  says := fun _ h => ∃ K : PySem.W.Frag, K.In h ∧ SaysY fa fn tf ex h K
  of := fun _ _ e => ⟨_, He.frT_in, saysY_of e⟩
  keeps := fun _ _ _ ⟨K, hK, c⟩ k => ⟨K, hK.keeps k, c.d, c.more, c.code, c.out, fun p hp => k _ _ (c.empty p hp)⟩
theorem obsY_eq {n : Nat} {fa : List He.Fa} {fn : List He.DefD} {tf : List He.Defn} {ex : PySem.W.Frag → Bool} {g : Addr → Option Obj} {s : Shared} (h : ∀ a, g a = s.heap.get? a) : obsY n fa fn tf ex g = (hookY n fa fn tf ex).obs s := by
  have e : g = s.heap.get? := funext h
  rw [e]
  rfl
def clsDefB (K : PySem.W.Frag) (C f : Addr) (m : Str) : Bool := PySem.W.readsIn K C (.type "type") && (decide (PySem.W.specialIn K (.ref C) "__getattribute__" = some (some (.builtin "type.__getattribute__"))) && (match PySem.W.findCls K (.ref C) (.type "type") m with
  | some (.val (.ref g)) => decide (g = f)
  | _ => false))
theorem clsDefB_ok {K : PySem.W.Frag} {C f : Addr} {m : Str} (h : clsDefB K C f m = true) : ClsDef K C f m := by
  obtain ⟨h1, h⟩ := Bool.and_eq_true_iff.mp h
  obtain ⟨h2, h3⟩ := Bool.and_eq_true_iff.mp h
  refine ⟨h1, of_decide_eq_true h2, ?_⟩
  split at h3
  · rename_i g e
    rw [e, of_decide_eq_true h3]
  · cases h3
/-- the __init__ of an own class -/
structure InitAt (K : PySem.W.Frag) (C f : Addr) : Prop where
  find : PySem.W.findIn K (.ref C) "__init__" = some (some (.ref f))
  fn : PySem.W.typeIn K (.ref f) = some (.type "function")
def initB (K : PySem.W.Frag) (C : Addr) : Bool := decide (PySem.W.findIn K (.ref C) "__init__" = some (some (.ref (He.ma K C "__init__")))) && decide (PySem.W.typeIn K (.ref (He.ma K C "__init__")) = some (.type "function"))
theorem initB_ok {K : PySem.W.Frag} {C : Addr} (h : initB K C = true) : InitAt K C (He.ma K C "__init__") :=
  let ⟨h1, h2⟩ := Bool.and_eq_true_iff.mp h
  ⟨of_decide_eq_true h1, of_decide_eq_true h2⟩
/-- a def with defaults, all parameters handed in -/
theorem bindsD {K : PySem.W.Frag} {x qual : Str} {params : Arguments} {body : List Stmt} {scope : Scope} {dvs : List V} {kws : List (Str × V)} {f : Addr} {fd : FuncData} {ps : List Str} (F : FunD K x qual params body scope dvs kws f fd)
    (h : ∀ (dV kV doc pm : Value) (an : Option Addr) (cdv ct : Value) (us : List Value), us.length = ps.length → bindArgs (PySem.W.fnOf x qual params body scope dV kV doc pm an cdv ct) ⟨us, []⟩ = pure (ps.zip us)) : Binds K fd ps [] := by
  obtain ⟨_, _, dV, kV, doc, pm, an, cdv, ct, _, rfl, _⟩ := F.ex
  exact .all (h dV kV doc pm an cdv ct)
def viB (K : PySem.W.Frag) (b i : String) : Bool := match PySem.W.findCls K (.type b) (.type "type") "__init__" with
  | some (.val (.builtin j)) => decide (j = i)
  | _ => false
theorem viB_ok {K : PySem.W.Frag} {b i : String} (h : viB K b i = true) : PySem.W.findCls K (.type b) (.type "type") "__init__" = some (.val (.builtin i)) := by
  unfold viB at h
  split at h
  · rename_i j e
    rw [e, of_decide_eq_true h]
  · cases h
end Tw

set_option maxHeartbeats 4000000
/-! own exception classes over any of some built-in ones: made, stored into, raised. The class is read off by the library's excInitIn, excOver, hasDictIn; the store goes by osa_openX. -/
namespace Tw
open PySem PySem.Spec PyProof.Rows L2
/-- a built-in class of exceptions: its name, its makers, the line of its elders -/
structure Bs where
  name : String
  newId : String
  initId : String
  tail : List Value
structure BsOk (b : Bs) : Prop where
  fac : ExcBaseFacts b.name b.newId b.initId b.tail
  sto : StoreFacts b.name b.tail "object.__setattr__" "object"
  typ : typeOf (.type b.name) = pure (.type "type")
  stub : Manifest.isStub b.name = false
abbrev bVE : Bs := ⟨"ValueError", "ValueError.__new__", "ValueError.__init__", [.type "ValueError", .type "Exception", .type "BaseException", .type "object"]⟩
abbrev bLE : Bs := ⟨"LookupError", "LookupError.__new__", "LookupError.__init__", [.type "LookupError", .type "Exception", .type "BaseException", .type "object"]⟩
abbrev bRE : Bs := ⟨"RuntimeError", "RuntimeError.__new__", "RuntimeError.__init__", [.type "RuntimeError", .type "Exception", .type "BaseException", .type "object"]⟩
abbrev bIE : Bs := ⟨"IndexError", "IndexError.__new__", "IndexError.__init__", [.type "IndexError", .type "LookupError", .type "Exception", .type "BaseException", .type "object"]⟩
theorem bb_ValueError : bootBuiltins "ValueError" = some (.type "ValueError") := by decide +kernel
theorem bb_LookupError : bootBuiltins "LookupError" = some (.type "LookupError") := by decide +kernel
theorem bb_RuntimeError : bootBuiltins "RuntimeError" = some (.type "RuntimeError") := by decide +kernel
theorem bb_IndexError : bootBuiltins "IndexError" = some (.type "IndexError") := by decide +kernel
theorem bVE_ok : BsOk bVE := ⟨F.excBase_ValueError, F.store_ValueError, by kernel_rfl, by decide +kernel⟩
theorem bIE_ok : BsOk bIE := ⟨F.excBase_IndexError, F.store_IndexError, by kernel_rfl, by decide +kernel⟩
theorem bLE_ok : BsOk bLE := ⟨F.excBase_LookupError, F.store_LookupError, by kernel_rfl, by decide +kernel⟩
theorem bRE_ok : BsOk bRE := ⟨F.excBase_RuntimeError, F.store_RuntimeError, by kernel_rfl, by decide +kernel⟩
/-- what the written part says of an own class over b -/
structure OxC (b : Bs) (K : PySem.W.Frag) (C : Addr) : Prop where
  ok : BsOk b
  makes : PySem.W.excInitIn K C b.tail b.newId = true
  over : PySem.W.excOver K C b.tail = true
  dict : PySem.W.hasDictIn K C = true
  store : PySem.W.findIn K (.ref C) "__setattr__" = some (some (.builtin "object.__setattr__"))
  exc : PySem.W.subIn K (.ref C) (.type "BaseException") = some true
  typ : PySem.W.typeIn K (.ref C) = some (.type "type")
  keep : PySem.W.keepIn K (.ref C) = true
def oxB (b : Bs) (K : PySem.W.Frag) (C : Addr) : Bool :=
  [PySem.W.excInitIn K C b.tail b.newId, PySem.W.excOver K C b.tail, PySem.W.hasDictIn K C, decide (PySem.W.findIn K (.ref C) "__setattr__" = some (some (.builtin "object.__setattr__"))), decide (PySem.W.subIn K (.ref C) (.type "BaseException") = some true), decide (PySem.W.typeIn K (.ref C) = some (.type "type")), PySem.W.keepIn K (.ref C)].all id
theorem oxB_ok {b : Bs} (okb : BsOk b) {K : PySem.W.Frag} {C : Addr} (h : oxB b K C = true) : OxC b K C := by
  simp only [oxB, List.all_cons, List.all_nil, id, Bool.and_true, Bool.and_eq_true, decide_eq_true_eq] at h
  obtain ⟨q1, q2, q3, q4, q5, q6, q7⟩ := h
  exact ⟨okb, q1, q2, q3, q4, q5, q6, q7⟩
section
variable {b : Bs} {X : Cx} {pins : List (Addr × Obj)} {σ : L2.St} {H : Hp} {s : Shared} {a C dx : Addr} {f : Str} {y : V} {u : Value} {fs : List (Str × V)} {E : Value → Shared → Prop} {A : Around}
theorem taker0 {K : PySem.W.Frag} (no : PySem.W.findIn K (.ref C) f = some none) : PySem.W.takerIn K C f = some none := by
  unfold PySem.W.takerIn
  rw [no]
  rfl
/-- the first field: a dict is laid, then the exception is made to hold it -/
theorem oxs_first {Q : Unit → Shared → Prop} (T : OxC b X.K C) (I : Inv X pins σ H s) (e : H a = some (exo a C none)) (no : PySem.W.findIn X.K (.ref C) f = some none) (ry : RelV y u)
    (h : ∀ dx s', H dx = none → dx ≠ a → Inv X pins σ (upd (upd H dx (exd dx [(f, y)])) a (exo a C (some dx))) s' → Q () s') : wpAny (model X.prog X.w) A (setAttr (.ref a) f u) Q E s := by
  obtain ⟨t1, old⟩ := exo_at I.hok e
  obtain ⟨hp, g, d, t, os⟩ := s
  obtain ⟨cd, hc, hd⟩ := PySem.W.any_some T.dict
  have ne : a ≠ hp.objs.size := Nat.ne_of_lt (Heap.lt_size old)
  refine PySem.W.set_plain (od := none) I.kIn ⟨old, rfl, rfl, trivial⟩ T.store (PySem.W.osa_openX (od := none) T.ok.sto I.kIn ⟨old, rfl, rfl, trivial⟩ T.over (taker0 no) fun _ => ?_)
  refine wpAny_bind (wpAny_pure (wpAny_bind (PySem.W.instanceDict_exc old (PySem.W.looks_clsIn I.kIn hc) hd ?_)))
  have held : ((hp.push (PySem.W.dictOf [] 0)).update a fun o => { o with dict := some hp.objs.size }).get? a = some { cls := .ref C, dict := some hp.objs.size, data := .fields #[.ref t1, .none, .none, .none, .bool false, .none] } := Heap.get?_update_self _ (Heap.get?_push_of_some _ old) rfl
  refine HandSPX.store_in_new ⟨_, #[], _, (Heap.get?_update_ne _ _ _ _ ne.symm).trans (Heap.get?_push_at rfl rfl), rfl, fun e he => absurd he (by simp), fun _ => rfl⟩ fun h' tk' hn hs => ?_
  have atA : h'.get? a = _ := (hs.2 a ne).trans held
  -- the heap between: the dict filled, the exception not yet touched
  have back : (h'.update a fun _ => { cls := .ref C, dict := none, data := .fields #[.ref t1, .none, .none, .none, .bool false, .none] }).get? a = some { cls := .ref C, dict := none, data := .fields #[.ref t1, .none, .none, .none, .bool false, .none] } := Heap.get?_update_self _ atA rfl
  have mid := I.laid (h' := h'.update a fun _ => { cls := .ref C, dict := none, data := .fields #[.ref t1, .none, .none, .none, .bool false, .none] }) (t' := tk') (o := exd hp.objs.size [(f, y)]) (fun c o q => ?_) (Nat.le_refl _)
    (exd_ok (hn.at fun o q => (Heap.get?_update_ne _ _ _ _ ne.symm).trans q) (relO_put (fs := []) ry fun _ => True.intro))
  · refine h hp.objs.size _ (I.hok.fresh (Nat.le_refl _)) ne.symm (mid.write (h' := h') (t' := tk') (x := a) (e := a) (o := exo a C (some hp.objs.size)) (by rw [upd_ne ne, e]; exact True.intro) (.inl rfl) (fun c o hc q => ?_) ⟨_, atA⟩ (exo_ok atA))
    exact (Heap.get?_update_ne _ _ _ _ hc).symm.trans q
  · by_cases hca : c = a
    · subst hca
      rw [back]
      exact old.symm.trans q
    · rw [Heap.get?_update_ne _ _ _ _ hca, hs.2 c (Nat.ne_of_lt (Heap.lt_size q)), Heap.get?_update_ne _ _ _ _ hca]
      exact Heap.get?_push_of_some _ q
/-- a further field -/
theorem oxs_more {Q : Unit → Shared → Prop} (T : OxC b X.K C) (I : Inv X pins σ H s) (e : H a = some (exo a C (some dx))) (ed : H dx = some (exd dx fs)) (hl : fs.length ≤ 900) (no : PySem.W.findIn X.K (.ref C) f = some none) (ry : RelV y u) (h : ∀ s', Inv X pins σ (upd H dx (exd dx ((f, y) :: fs))) s' → Q () s') :
    wpAny (model X.prog X.w) A (setAttr (.ref a) f u) Q E s := by
  obtain ⟨t1, old⟩ := exo_at I.hok e
  obtain ⟨m0, ns, rel⟩ := exd_at I.hok ed
  obtain ⟨hp, g, d, t, os⟩ := s
  obtain ⟨cd, hc, hd⟩ := PySem.W.any_some T.dict
  obtain ⟨od, _, _, atD, _⟩ := ns.count (within_of rel)
  refine PySem.W.set_plain (od := some od) I.kIn ⟨old, rfl, rfl, atD⟩ T.store (PySem.W.osa_openX (od := some od) T.ok.sto I.kIn ⟨old, rfl, rfl, atD⟩ T.over (taker0 no) fun _ => ?_)
  refine wpAny_bind (wpAny_pure (wpAny_bind (wpAny_bind (wpAny_loadPart old (wpAny_bind ((PySem.W.looks_clsIn I.kIn hc).at ?_))))))
  rw [hd]
  refine wpAny_pure (a := some dx) (PySem.OEX.store_in_old ns (within_of rel) (by rw [List.length_map]; omega) fun h' tk' hn hs => ?_)
  obtain ⟨_, _, _, there, _⟩ := id hn
  exact h _ (I.write (t' := tk') (x := dx) (e := dx) (o := exd dx ((f, y) :: fs)) (by rw [ed]; exact True.intro) (.inl rfl) (fun c o hc q => (hs.2 c hc).trans q) ⟨_, there⟩ (exd_ok hn (relO_put ry rel)))
theorem upd_idem {o : HO} (e : H a = some o) : upd H a o = H := funext fun c => by
  by_cases hc : c = a
  · subst hc
    exact upd_same.trans e.symm
  · exact upd_ne hc
/-- B.__init__ of the built-in class: the exception keeps its shape -/
theorem ox_init {us : List Value} {Q : Value → Shared → Prop} (T : OxC b X.K C) (I : Inv X pins σ H s) (e : H a = some (exo a C none)) (hl : us.length ≤ sizeLine) (h : ∀ s', Inv X pins σ H s' → Q .none s') : wpAny (model X.prog X.w) A (call (.builtin b.initId) (.ref a :: us)) Q E s := by
  obtain ⟨_, _, _, _, _, _, _, _, _, _, _, _, _, _, _, _, cls, line⟩ := PySem.W.excInit_of I.kIn T.makes
  obtain ⟨t1, old⟩ := exo_at I.hok e
  obtain ⟨hp, g, d, t, os⟩ := s
  refine wpAny_call (PySem.HandSPX.init_base T.ok.fac line cls old hl fun h' t2 k new => h _ ?_)
  have J := I.write (t' := t) (x := a) (e := a) (o := exo a C none) (by rw [e]; exact True.intro) (.inl rfl) k ⟨_, new⟩ (exo_ok new)
  rwa [upd_idem e] at J
end
/-- B.__init__(self, ..), B the built-in one -/
def tBi (b : Bs) (K : PySem.W.Frag) (ta : TA) : TE := fun σ H Q => ta σ H fun vs H1 => ∃ (a C : Addr) (ws : List V), vs = .ref a :: ws ∧ ws.length ≤ 1000 ∧ OxC b K C ∧ H1 a = some (exo a C none) ∧ Q .non H1
/-- self.f = e -/
def tOx (b : Bs) (K : PySem.W.Frag) (f : Str) (to te : TE) : TS := fun D σ H => te σ H fun y H1 => to σ H1 fun x H2 => ∃ a C : Addr, x = .ref a ∧ OxC b K C ∧ PySem.W.findIn K (.ref C) f = some none ∧
  ((H2 a = some (exo a C none) ∧ ∀ dx, H2 dx = none → dx ≠ a → D.nx σ (upd (upd H2 dx (exd dx [(f, y)])) a (exo a C (some dx)))) ∨ ∃ (dx : Addr) (fs : List (Str × V)), H2 a = some (exo a C (some dx)) ∧ H2 dx = some (exd dx fs) ∧ fs.length ≤ 900 ∧ D.nx σ (upd H2 dx (exd dx ((f, y) :: fs))))
section
variable {b : Bs} {X : Cx} {o e : Expr} {es : List Expr} {to te : TE} {ta : TA} {f x : Str} {p p' p1 p2 pos : Pos} {pl : Sem Bool}
theorem pe_binit (okb : BsOk b) (hv : bootBuiltins x = some (.type b.name)) (hg : Gl X x) (hm : X.mg x = none) (vV : PySem.W.findCls X.K (.type b.name) (.type "type") "__init__" = some (.val (.builtin b.initId))) (hh : PySem.W.handedIn (.builtin b.initId) = true) (ha : PA X (e :: es) ta)
    (form : MeForm X pl (.Name x p1) e es "__init__" p2 pos := by exact ⟨rfl, rfl, rfl⟩) (hn : x ≠ "__name__" := by decide) (hdb : (x == ("__debug__" : Str)) = false := by decide) :
    PE X (.Call (.Attribute (.Name x p1) "__init__" p2) (e :: es) [] pos) (tBi b X.K ta) := by
  constructor
  intro pins s σ H Q I h
  obtain ⟨_, fr⟩ := I.fr
  refine PySem.W.methodCall_KW (pl := pl) (ld_blt I hg hm hv (PySem.W.method_type fr I.ok.mod.kin okb.typ okb.stub vV hh ?_) hn hdb) form.steps
  refine PyProof.Rows.callWith_method1 (thn (ha.run pos pins _ σ H _ (I.tok _) h) ?_) form.first form.plain
  rintro _ s1 ⟨_, H1, I1, rel, a, C, ws, rfl, hl, T, ea, q⟩
  cases rel with
  | cons ra rr =>
    cases (show _ = Value.ref a from ra)
    exact ox_init T I1 ea (Nat.le_trans (Nat.le_of_eq (Paired.length rr).symm) (by rw [sizeLine_eq]; omega)) fun s' J => ⟨.non, H1, J, rfl, q⟩
theorem ps_ox (ho : PE X o to) (he : PE X e te) (hs : swapsWith e (some (.Attribute o f p')) pos.line X.env = pure false := by rfl) : PS X (.Assign [.Attribute o f p'] e pos) (tOx b X.K f to te) := by
  constructor
  intro pins s σ H D I h
  refine plainObj_wpAny_Assign_Attribute (thn (he.run pins s σ H _ I h) ?_) hs
  rintro v s1 ⟨y, H1, I1, ry, q1⟩
  refine thn (ho.run pins s1 σ H1 _ I1 q1) ?_
  rintro _ s2 ⟨_, H2, I2, ro, a, C, rfl, T, no, new | more⟩ <;> cases (show _ = Value.ref a from ro)
  · exact oxs_first T I2 new.1 no ry fun dx s' n ne J => ⟨σ, _, J, new.2 dx n ne⟩
  · obtain ⟨dx, fs, ea, ed, hl, q⟩ := more
    exact oxs_more T I2 ea ed hl no ry fun s' J => ⟨σ, _, J, q⟩
/-- an own exception class over b that is made by its name -/
structure MkB (b : Bs) (P : Program) (w : World) (K : PySem.W.Frag) (mg : Str → Option Value) (base : Heap) (k : Nat) (x : Str) (C : Addr) (sp : Sp) : Prop where
  ex : ∃ (f : Addr) (fd : FuncData) (ps : List Str), OxC b K C ∧ InitAt K C f ∧ FnOk P w K mg base CX0 k f fd ps sp ∧ mg x = some (.ref C) ∧ Binds K fd ps []
theorem pmk_b {k j : Nat} {C : Addr} {sp : Sp} (c : MkB b X.prog X.w X.K X.mg X.base k x C sp) (hr : Room j X.A) (hk : k + 1 ≤ j) (hg : Gl X x) (ha : PA X (e :: es) ta) (form : Flat X x e es pos := by exact ⟨by decide, rfl, rfl⟩) : PMk X (.Call (.Name x p) (e :: es) [] pos) (tMkO C sp [] ta) := by
  intro pins s σ H Q I h
  obtain ⟨init, fd, ps, T, at_, F0, hm, bnd⟩ := c.ex
  have F := F0.raw bnd .nil
  refine wpAny_Call_Name_kw (ld_glob I hg hm (PySem.W.callWith_K (h₀ := X.base) I.ok.mod.kin T.keep (thn (ha.run pos pins s σ H _ I h) ?_) form.first form.plain) form.dbg)
  rintro us ⟨hp, g, d, t, os⟩ ⟨vs, H1, I1, rel, few, q⟩
  refine ⟨I1.kIn, ?_⟩
  obtain ⟨_, _, _, _, _, _, _, _, _, _, _, _, _, _, _, _, cls, line⟩ := PySem.W.excInit_of I1.kIn T.makes
  -- the args' tuple and the exception lie behind one another
  have next : hp.objs.size ≤ hp.objs.size + 1 := Nat.le_succ _
  have kept : ∀ c o, hp.get? c = some o → ((hp.push (PySem.W.kdv_tup us)).push (PySem.HandSPX.excO C hp.objs.size)).get? c = some o := fun c o z => Heap.get?_push_of_some _ (Heap.get?_push_of_some _ z)
  have I2 := I1.laid (h' := (hp.push (PySem.W.kdv_tup us)).push (PySem.HandSPX.excO C hp.objs.size)) (t' := t) (o := exo (hp.objs.size + 1) C none) kept next (exo_ok (t1 := hp.objs.size) (by heap_get))
  have fits : us.length ≤ sizeLine := Nat.le_trans (Nat.le_of_eq (Paired.length rel).symm) (by rw [sizeLine_eq]; omega)
  have ran := F _ X.stack _ _ (.ref (hp.objs.size + 1) :: us) (.ref (hp.objs.size + 1) :: vs) _ E0 ((hr.mono hk).make C us []) (I2.env0.make C us []) (.cons rfl rel) (q _ (I1.hok.fresh next))
  refine wpAny_call (PySem.HandSPX.call_own T.ok.fac line cls (PySem.W.looks_findIn I1.kIn at_.find) (fun self => PySem.W.bind_fn I1.kIn self at_.fn) fits (codeAny_mono ran ?_))
  rintro (_ | (_ | _ | _ | _)) ⟨h2, g2, d2, t2, os2⟩ z <;> first
    | exact False.elim z
    | (obtain ⟨_, H2, os', bare, un, hok, rv, rfl, dd, fs, ea, ed, new, q2⟩ := z
       exact ⟨rv, mk_end (raises_own T.exc T.typ) I1 next kept un hok os' bare ea ed new q2⟩)
end
end Tw

set_option maxHeartbeats 4000000
/-! a head that looks only at the globals that are wanted, and what hangs on them; of some at nothing but themselves -/
namespace Tw
open PySem PySem.Spec PyProof.Rows L2
/-- what is met anew, with the marks of all that was met (a number's bits: no list is searched) -/
def metZ (p : Nat × List Addr) (a : Addr) : Nat × List Addr := match p with
  | (m, l) => cond (Nat.beq (Nat.land (Nat.shiftRight m a) 1) 1) (m, l) (Nat.lor m (Nat.shiftLeft 1 a), a :: l)
def nextZ (g : Addr → Option Obj) (m : Nat) (f : List Addr) : Nat × List Addr := f.foldl (fun p a => match g a with
  | some o => (He.refsD o).foldl metZ p
  | none => p) (m, [])
/-- what the addresses f reach in n steps -/
def goZ (g : Addr → Option Obj) : Nat → Nat → List Addr → List Addr
  | 0, _, f => f
  | n + 1, m, f => match nextZ g m f with
    | (m', f') => f ++ goZ g n m' f'
/-- what is wanted: with all that it reaches in n steps; with what it holds itself (defs: their code); as it is -/
abbrev Want : Type := List Str × List Str × List Str
/-- never back into the globals -/
def asZ (g : Addr → Option Obj) (want : Want) (n : Nat) : List Addr := match (want.1.map (He.ga (He.frT g [mainGlobals]))).foldl metZ (Nat.shiftLeft 1 mainGlobals, []) with
  | (m, f) => (want.2.1.map (He.ga (He.frT g [mainGlobals]))).flatMap (fun a => a :: match g a with
    | some o => (He.refsD o).filter fun b => !(Nat.beq b mainGlobals)
    | none => []) ++ goZ g n m f.reverse
def frZ (g : Addr → Option Obj) (want : Want) (n : Nat) : PySem.W.Frag := He.frT g (mainGlobals :: (asZ g want n ++ (want.2.2.map (He.ga (He.frT g [mainGlobals])) ++ [cStatics])))
def obsZ (n : Nat) (want : Want) (fa : List He.Fa) (fn : List He.DefD) (tf : List He.Defn) (ex : PySem.W.Frag → Bool) (g : Addr → Option Obj) : AlY := (He.obsD fa fn (frZ g want n), ex (frZ g want n) && He.tabsB g tf (frZ g want n))
theorem saysZ_of {n : Nat} {want : Want} {fa : List He.Fa} {fn : List He.DefD} {tf : List He.Defn} {ex : PySem.W.Frag → Bool} {h : Heap} (e : obsZ n want fa fn tf ex h.get? = (He.valD fn, true)) : SaysY fa fn tf ex h (frZ h.get? want n) := by
  have e1 := congrArg (fun z : AlY => z.1) e
  obtain ⟨m1, m2⟩ := Bool.and_eq_true_iff.mp (congrArg (fun z : AlY => z.2) e)
  have at_ : ∀ p ∈ tf, PySem.W.codeHdIn (frZ h.get? want n) (He.cT (frZ h.get? want n) p).1 (He.cT (frZ h.get? want n) p).2 = true ∧ ∃ o, h.get? (He.cT (frZ h.get? want n) p).2 = some o ∧ He.emptyTab o = true := by
    intro p hp
    obtain ⟨c1, c2⟩ := Bool.and_eq_true_iff.mp (List.all_eq_true.mp m2 p hp)
    revert c2
    cases h.get? (He.cT (frZ h.get? want n) p).2 with
    | none => exact fun z => nomatch z
    | some o => exact fun z => ⟨c1, o, rfl, z⟩
  refine ⟨e1, m1, fun p hp => (at_ p hp).1, fun p hp => ?_, fun p hp => ?_⟩
  · obtain ⟨_, o, q, z⟩ := at_ p hp
    exact He.frT_none q z
  · obtain ⟨_, o, q, z⟩ := at_ p hp
    rw [q, He.emptyTab_eq z]
def hookZ (n : Nat) (want : Want) (fa : List He.Fa) (fn : List He.DefD) (tf : List He.Defn) (ex : PySem.W.Frag → Bool) : PySem.W.Hook where
  α := AlY
  obs := fun s => obsZ n want fa fn tf ex s.heap.get?
  val := fun _ => (He.valD fn, true)
  says := fun _ h => ∃ K : PySem.W.Frag, K.In h ∧ SaysY fa fn tf ex h K
  of := fun _ _ e => ⟨_, He.frT_in, saysZ_of e⟩
  keeps := fun _ _ _ ⟨K, hK, c⟩ k => ⟨K, hK.keeps k, c.d, c.more, c.code, c.out, fun p hp => k _ _ (c.empty p hp)⟩
theorem obsZ_eq {n : Nat} {want : Want} {fa : List He.Fa} {fn : List He.DefD} {tf : List He.Defn} {ex : PySem.W.Frag → Bool} {g : Addr → Option Obj} {s : Shared} (h : ∀ a, g a = s.heap.get? a) : obsZ n want fa fn tf ex g = (hookZ n want fa fn tf ex).obs s := by
  rw [show g = s.heap.get? from funext h]
  rfl
/-! .. with dicts of the top whose keys are texts -/
structure SaysW (fa : List He.Fa) (fn : List He.DefD) (tf : List He.Defn) (ex : PySem.W.Frag → Bool) (tb : List He.Tab) (w : World) (h : Heap) (K : PySem.W.Frag) : Prop where
  y : SaysY fa fn tf ex h K
  tab : ∀ t ∈ tb, ∃ es n, KDict K w (t.1 K) es n
  tabo : ∀ t ∈ tb, He.dicW K (t.1 K) = some (He.keysIn w.params t.2)
abbrev AlW : Type := AlY × List (Option (List (Option (Str × Int))))
def obsW (n : Nat) (want : Want) (fa : List He.Fa) (fn : List He.DefD) (tf : List He.Defn) (ex : PySem.W.Frag → Bool) (tb : List He.Tab) (g : Addr → Option Obj) : AlW := (obsZ n want fa fn tf ex g, tb.map fun t => He.dicW (frZ g want n) (t.1 (frZ g want n)))
def valW (fn : List He.DefD) (tb : List He.Tab) (w : World) : AlW := ((He.valD fn, true), tb.map fun t => some (He.keysIn w.params t.2))
theorem saysW_of {n : Nat} {want : Want} {fa : List He.Fa} {fn : List He.DefD} {tf : List He.Defn} {ex : PySem.W.Frag → Bool} {tb : List He.Tab} {w : World} {h : Heap} (e : obsW n want fa fn tf ex tb h.get? = valW fn tb w) : SaysW fa fn tf ex tb w h (frZ h.get? want n) := by
  have e2 : (tb.map fun t => He.dicW (frZ h.get? want n) (t.1 (frZ h.get? want n))) = tb.map fun t => some (He.keysIn w.params t.2) := congrArg Prod.snd e
  exact ⟨saysZ_of (congrArg Prod.fst e), fun t ht => He.dicW_ok (ks := t.2) (List.map_inj_left.mp e2 t ht), fun t ht => List.map_inj_left.mp e2 t ht⟩
def hookW (n : Nat) (want : Want) (fa : List He.Fa) (fn : List He.DefD) (tf : List He.Defn) (ex : PySem.W.Frag → Bool) (tb : List He.Tab) : PySem.W.Hook where
  α := AlW
  obs := fun s => obsW n want fa fn tf ex tb s.heap.get?
  val := fun w => valW fn tb w
  says := fun w h => ∃ K : PySem.W.Frag, K.In h ∧ SaysW fa fn tf ex tb w h K
  of := fun _ _ e => ⟨_, He.frT_in, saysW_of e⟩
  keeps := fun _ _ _ ⟨K, hK, c⟩ k => ⟨K, hK.keeps k, ⟨c.y.d, c.y.more, c.y.code, c.y.out, fun p hp => k _ _ (c.y.empty p hp)⟩, c.tab, c.tabo⟩
theorem obsW_eq {n : Nat} {want : Want} {fa : List He.Fa} {fn : List He.DefD} {tf : List He.Defn} {ex : PySem.W.Frag → Bool} {tb : List He.Tab} {g : Addr → Option Obj} {s : Shared} (h : ∀ a, g a = s.heap.get? a) : obsW n want fa fn tf ex tb g = (hookW n want fa fn tf ex tb).obs s := by
  rw [show g = s.heap.get? from funext h]
  rfl
/-- three looks at one end, taken one by one -/
theorem three_of {α β γ δ : Type} {o : Option α} {f : α → β} {g : α → γ} {h : α → δ} {x : β} {y : γ} {z : δ} (e1 : o.map (fun s => (f s, g s)) = some (x, y)) (e2 : o.map h = some z) : o.map (fun s => (f s, g s, h s)) = some (x, y, z) := by
  cases o with
  | none => cases e1
  | some s =>
    have h1 := Option.some.inj e1
    have h2 : h s = z := Option.some.inj e2
    show some (f s, g s, h s) = some (x, y, z)
    rw [h2, show f s = x from congrArg Prod.fst h1, show g s = y from congrArg Prod.snd h1]
end Tw

set_option maxHeartbeats 4000000
/-! dicts of the top whose values are tuples of texts; methods as bound ones -/
namespace Tw
open PySem PySem.Spec PyProof.Rows L2
def txtB : Value → Bool
  | .str _ _ => true
  | _ => false
def frmB (K : PySem.W.Frag) (d : Addr) (k : Str) (n : Nat) : Bool := match PySem.W.nsIn K d k with
  | some (some (.ref a)) => (match K.lookup a with
    | some ⟨.type "tuple", _, .seq its _, _⟩ => decide (its.size = n) && decide (n ≤ 100) && its.all txtB
    | _ => false)
  | _ => false
theorem txt_vals : ∀ {us : List Value}, us.all txtB = true → ∃ xs : List V, Vals xs us
  | [], _ => ⟨[], .nil⟩
  | u :: us, h => by
    rw [List.all_cons, Bool.and_eq_true] at h
    obtain ⟨xs, r⟩ := txt_vals h.2
    cases u with
    | str z t => exact ⟨.str z :: xs, .cons ⟨t, rfl⟩ r⟩
    | _ => cases h.1
theorem frm_ok {K : PySem.W.Frag} {d : Addr} {k : Str} {n : Nat} (h : frmB K d k n = true) : ∃ a xs, PySem.W.nsIn K d k = some (some (.ref a)) ∧ xs.length = n ∧ ∀ H, SqT K H a xs := by
  unfold frmB at h
  split at h
  · rename_i a e
    split at h
    · rename_i dd its m sl e2
      rw [Bool.and_eq_true, Bool.and_eq_true, decide_eq_true_eq, decide_eq_true_eq] at h
      obtain ⟨xs, r⟩ := txt_vals (us := its.toList) (by simpa using h.2)
      refine ⟨a, xs, e, ?_, fun H => .inr ⟨_, its, m, e2, rfl, rfl, ?_, r⟩⟩
      · rw [r.length, Array.length_toList]
        exact h.1.1
      · rw [h.1.1, sizeLine_eq]
        omega
    · cases h
  · cases h
/-- a tuple of just these texts -/
def isTxt : Value → Str → Bool
  | .str z _, x => decide (z = x)
  | _, _ => false
def allTxt : List Value → List Str → Bool
  | [], [] => true
  | u :: us, x :: xs => isTxt u x && allTxt us xs
  | _, _ => false
def frxB (K : PySem.W.Frag) (d : Addr) (k : Str) (xs : List Str) : Bool := match PySem.W.nsIn K d k with
  | some (some (.ref a)) => (match K.lookup a with
    | some ⟨.type "tuple", _, .seq its _, _⟩ => decide (its.size ≤ 100) && allTxt its.toList xs
    | _ => false)
  | _ => false
theorem allTxt_vals : ∀ {us : List Value} {xs : List Str}, allTxt us xs = true → Vals (xs.map V.str) us
  | [], [], _ => .nil
  | u :: us, x :: xs, h => by
    have h : (isTxt u x && allTxt us xs) = true := h
    rw [Bool.and_eq_true] at h
    refine .cons ?_ (allTxt_vals h.2)
    cases u with
    | str z t =>
      have e : z = x := of_decide_eq_true h.1
      subst e
      exact ⟨t, rfl⟩
    | _ => cases h.1
  | [], _ :: _, h => by cases h
  | _ :: _, [], h => by cases h
theorem frx_ok {K : PySem.W.Frag} {d : Addr} {k : Str} {xs : List Str} (h : frxB K d k xs = true) : ∃ a, PySem.W.nsIn K d k = some (some (.ref a)) ∧ ∀ H, SqT K H a (xs.map V.str) := by
  unfold frxB at h
  split at h
  · rename_i a e
    split at h
    · rename_i dd its m sl e2
      rw [Bool.and_eq_true, decide_eq_true_eq] at h
      have r := allTxt_vals h.2
      refine ⟨a, e, fun H => .inr ⟨_, its, m, e2, rfl, rfl, ?_, r⟩⟩
      rw [sizeLine_eq]
      omega
    · cases h
  · cases h
/-- a method of a class, as it is bound -/
def bmB (K : PySem.W.Frag) (f : Addr) (m : Str) : Bool := decide (PySem.W.specialIn K (.ref f) "__get__" = some (some (.builtin "function.__get__"))) && (decide (PySem.W.takesIn K (.ref f) = some false) && (!PySem.W.copiedNames.contains m && PySem.W.fnIn K f))
theorem bm_ok {K : PySem.W.Frag} {C f : Addr} {m : Str} (me : Meth K C m f) (h : bmB K f m = true) : BMeth K C m f := by
  unfold bmB at h
  rw [Bool.and_eq_true, Bool.and_eq_true, Bool.and_eq_true, decide_eq_true_eq, decide_eq_true_eq, Bool.not_eq_true'] at h
  exact ⟨me, h.1, h.2.1, h.2.2.1, h.2.2.2⟩
end Tw

set_option maxHeartbeats 4000000
namespace Tw
open PySem PySem.Spec PyProof.Rows L2

def top (i : Nat) : Stmt := PySem.Challenge.pw_tidewaiter_k63_pages_there_and_back.main.body.getD i (.Pass ⟨0, 0, 0, 0⟩)
abbrev s_TideError_UinitU : Stmt := inClass (top 2) 0
abbrev s_BadBy_UinitU : Stmt := inClass (top 3) 0
abbrev s_BadName_UinitU : Stmt := inClass (top 4) 0
abbrev s_Taken_UinitU : Stmt := inClass (top 5) 0
abbrev s_Full_UinitU : Stmt := inClass (top 6) 0
abbrev s_BadLength_UinitU : Stmt := inClass (top 7) 0
abbrev s_BadLate_UinitU : Stmt := inClass (top 8) 0
abbrev s_BadTie_UinitU : Stmt := inClass (top 9) 0
abbrev s_Used_UinitU : Stmt := inClass (top 10) 0
abbrev s_BadText_UinitU : Stmt := inClass (top 11) 0
abbrev s_BadDeed_UinitU : Stmt := inClass (top 12) 0
abbrev s_Missing_UinitU : Stmt := inClass (top 13) 0
abbrev s_NoMoment_UinitU : Stmt := inClass (top 14) 0
abbrev s_NoPoint_UinitU : Stmt := inClass (top 15) 0
abbrev s_NoTie_UinitU : Stmt := inClass (top 16) 0
abbrev s_NoDeed_UinitU : Stmt := inClass (top 17) 0
abbrev s_RunFault_UinitU : Stmt := inClass (top 18) 0
abbrev s_NothingBack_UinitU : Stmt := inClass (top 19) 0
abbrev s_is_number : Stmt := top 23
abbrev s_is_whole : Stmt := top 24
abbrev s_is_one_of : Stmt := top 25
abbrev s_is_name : Stmt := top 26
abbrev s_is_figures : Stmt := top 31
abbrev s_read_number : Stmt := top 32
abbrev s_read_bound : Stmt := top 33
abbrev s_read_name : Stmt := top 34
abbrev s_written : Stmt := top 35
abbrev s_read_words : Stmt := top 37
abbrev s_read_word : Stmt := top 38
abbrev s_need_deed : Stmt := top 41
abbrev s_with_deed : Stmt := top 42
abbrev s_write_deed : Stmt := top 43
abbrev s_read_deed : Stmt := top 44
abbrev s_write_line : Stmt := top 45
abbrev s_do_line : Stmt := top 46
abbrev s_Web_UinitU : Stmt := inClass (top 57) 0
abbrev s_Web_with_by : Stmt := inClass (top 57) 1
abbrev s_Web_with_moment : Stmt := inClass (top 57) 2
abbrev s_Web_with_span : Stmt := inClass (top 57) 3
abbrev s_Web_with_tie : Stmt := inClass (top 57) 4
abbrev s_Web_without : Stmt := inClass (top 57) 5
abbrev s_Web_without_tie : Stmt := inClass (top 57) 6
abbrev s_Web_moments : Stmt := inClass (top 57) 7
abbrev s_Web_spans : Stmt := inClass (top 57) 8
abbrev s_Web_ties : Stmt := inClass (top 57) 9
abbrev s_Web_points : Stmt := inClass (top 57) 10
abbrev s_Web_UeqU : Stmt := inClass (top 57) 11
abbrev s_Web_UlenU : Stmt := inClass (top 57) 12
abbrev s_Web_UreprU : Stmt := inClass (top 57) 13
abbrev s_woven : Stmt := top 58
abbrev s_is_begin : Stmt := top 59
abbrev s_are_lengths : Stmt := top 60
abbrev s_is_lateness : Stmt := top 61
abbrev s_is_used : Stmt := top 62
abbrev s_are_bounds : Stmt := top 63
abbrev s_need_free_name : Stmt := top 64
abbrev s_need_point : Stmt := top 65
abbrev s_Log_UinitU : Stmt := inClass (top 67) 0
abbrev s_Log_do : Stmt := inClass (top 67) 1
abbrev s_Log_deal : Stmt := inClass (top 67) 2
abbrev s_Log_now : Stmt := inClass (top 67) 3
abbrev s_Log_deeds : Stmt := inClass (top 67) 5
abbrev s_Log_undo : Stmt := inClass (top 67) 6
abbrev s_Log_redo : Stmt := inClass (top 67) 7
abbrev s_Log_as_of : Stmt := inClass (top 67) 8
abbrev s_Log_UlenU : Stmt := inClass (top 67) 10
abbrev s_do_whole : Stmt := top 68
abbrev s_as_told : Stmt := top 69
abbrev s_page : Stmt := top 71
abbrev s_read_page : Stmt := top 72
abbrev s_begun_log : Stmt := top 73
abbrev s__law_flow : Stmt := top 75
abbrev s__law_draw : Stmt := top 76
abbrev s__law_pick : Stmt := top 77
abbrev s__law_same : Stmt := top 78
abbrev s__law_why : Stmt := top 79
abbrev s__law_model : Stmt := top 80
abbrev s__law_points : Stmt := top 81
abbrev s__law_bond : Stmt := top 82
abbrev s__law_stands : Stmt := top 83
abbrev s__law_copy : Stmt := top 84
abbrev s__law_whole : Stmt := top 85
abbrev s__law_tie_due : Stmt := top 86
abbrev s__law_deed_line : Stmt := top 87
abbrev s__law_name_good : Stmt := top 88
abbrev s__law_new_due : Stmt := top 89
abbrev s__law_span_word : Stmt := top 90
abbrev s__law_without_word : Stmt := top 91
abbrev s__law_deed_word : Stmt := top 92
abbrev s__law_deed_done : Stmt := top 93
abbrev s__law_some_deed : Stmt := top 94
abbrev s__law_log_stands : Stmt := top 95
abbrev s__law_dealt : Stmt := top 96
abbrev s__law_some_entry : Stmt := top 97
abbrev s__law_entry_word : Stmt := top 98
abbrev s__law_log_turn : Stmt := top 99
abbrev s__law_entry_line : Stmt := top 100
abbrev s__law_page : Stmt := top 101
abbrev s__law_told_right : Stmt := top 102
abbrev s_law : Stmt := top 103
abbrev N_TideError_UinitU : List Str := ["self", "word", "why"]
theorem sc_TideError_UinitU : FnScope N_TideError_UinitU ["self", "word", "why"] (defScope s_TideError_UinitU) := ⟨rfl, rfl, rfl, by decide +kernel, rfl, by decide +kernel, by decide +kernel⟩
abbrev N_BadBy_UinitU : List Str := ["self", "by"]
theorem sc_BadBy_UinitU : FnScope N_BadBy_UinitU ["self", "by"] (defScope s_BadBy_UinitU) := ⟨rfl, rfl, rfl, by decide +kernel, rfl, by decide +kernel, by decide +kernel⟩
abbrev N_BadName_UinitU : List Str := ["self", "name"]
theorem sc_BadName_UinitU : FnScope N_BadName_UinitU ["self", "name"] (defScope s_BadName_UinitU) := ⟨rfl, rfl, rfl, by decide +kernel, rfl, by decide +kernel, by decide +kernel⟩
abbrev N_Taken_UinitU : List Str := ["self", "name"]
theorem sc_Taken_UinitU : FnScope N_Taken_UinitU ["self", "name"] (defScope s_Taken_UinitU) := ⟨rfl, rfl, rfl, by decide +kernel, rfl, by decide +kernel, by decide +kernel⟩
abbrev N_Full_UinitU : List Str := ["self", "most"]
theorem sc_Full_UinitU : FnScope N_Full_UinitU ["self", "most"] (defScope s_Full_UinitU) := ⟨rfl, rfl, rfl, by decide +kernel, rfl, by decide +kernel, by decide +kernel⟩
abbrev N_BadLength_UinitU : List Str := ["self", "low", "high"]
theorem sc_BadLength_UinitU : FnScope N_BadLength_UinitU ["self", "low", "high"] (defScope s_BadLength_UinitU) := ⟨rfl, rfl, rfl, by decide +kernel, rfl, by decide +kernel, by decide +kernel⟩
abbrev N_BadLate_UinitU : List Str := ["self", "late"]
theorem sc_BadLate_UinitU : FnScope N_BadLate_UinitU ["self", "late"] (defScope s_BadLate_UinitU) := ⟨rfl, rfl, rfl, by decide +kernel, rfl, by decide +kernel, by decide +kernel⟩
abbrev N_BadTie_UinitU : List Str := ["self", "least", "most"]
theorem sc_BadTie_UinitU : FnScope N_BadTie_UinitU ["self", "least", "most"] (defScope s_BadTie_UinitU) := ⟨rfl, rfl, rfl, by decide +kernel, rfl, by decide +kernel, by decide +kernel⟩
abbrev N_Used_UinitU : List Str := ["self", "name"]
theorem sc_Used_UinitU : FnScope N_Used_UinitU ["self", "name"] (defScope s_Used_UinitU) := ⟨rfl, rfl, rfl, by decide +kernel, rfl, by decide +kernel, by decide +kernel⟩
abbrev N_BadText_UinitU : List Str := ["self", "row"]
theorem sc_BadText_UinitU : FnScope N_BadText_UinitU ["self", "row"] (defScope s_BadText_UinitU) := ⟨rfl, rfl, rfl, by decide +kernel, rfl, by decide +kernel, by decide +kernel⟩
abbrev N_BadDeed_UinitU : List Str := ["self", "kind"]
theorem sc_BadDeed_UinitU : FnScope N_BadDeed_UinitU ["self", "kind"] (defScope s_BadDeed_UinitU) := ⟨rfl, rfl, rfl, by decide +kernel, rfl, by decide +kernel, by decide +kernel⟩
abbrev N_Missing_UinitU : List Str := ["self", "word", "why"]
theorem sc_Missing_UinitU : FnScope N_Missing_UinitU ["self", "word", "why"] (defScope s_Missing_UinitU) := ⟨rfl, rfl, rfl, by decide +kernel, rfl, by decide +kernel, by decide +kernel⟩
abbrev N_NoMoment_UinitU : List Str := ["self", "name"]
theorem sc_NoMoment_UinitU : FnScope N_NoMoment_UinitU ["self", "name"] (defScope s_NoMoment_UinitU) := ⟨rfl, rfl, rfl, by decide +kernel, rfl, by decide +kernel, by decide +kernel⟩
abbrev N_NoPoint_UinitU : List Str := ["self", "name"]
theorem sc_NoPoint_UinitU : FnScope N_NoPoint_UinitU ["self", "name"] (defScope s_NoPoint_UinitU) := ⟨rfl, rfl, rfl, by decide +kernel, rfl, by decide +kernel, by decide +kernel⟩
abbrev N_NoTie_UinitU : List Str := ["self", "at"]
theorem sc_NoTie_UinitU : FnScope N_NoTie_UinitU ["self", "at"] (defScope s_NoTie_UinitU) := ⟨rfl, rfl, rfl, by decide +kernel, rfl, by decide +kernel, by decide +kernel⟩
abbrev N_NoDeed_UinitU : List Str := ["self", "at"]
theorem sc_NoDeed_UinitU : FnScope N_NoDeed_UinitU ["self", "at"] (defScope s_NoDeed_UinitU) := ⟨rfl, rfl, rfl, by decide +kernel, rfl, by decide +kernel, by decide +kernel⟩
abbrev N_RunFault_UinitU : List Str := ["self", "word", "why"]
theorem sc_RunFault_UinitU : FnScope N_RunFault_UinitU ["self", "word", "why"] (defScope s_RunFault_UinitU) := ⟨rfl, rfl, rfl, by decide +kernel, rfl, by decide +kernel, by decide +kernel⟩
abbrev N_NothingBack_UinitU : List Str := ["self"]
theorem sc_NothingBack_UinitU : FnScope N_NothingBack_UinitU ["self"] (defScope s_NothingBack_UinitU) := ⟨rfl, rfl, rfl, by decide +kernel, rfl, by decide +kernel, by decide +kernel⟩
abbrev N_is_number : List Str := ["thing"]
theorem sc_is_number : FnScope N_is_number ["thing"] (defScope s_is_number) := ⟨rfl, rfl, rfl, by decide +kernel, rfl, by decide +kernel, by decide +kernel⟩
abbrev N_is_whole : List Str := ["thing", "least", "most"]
theorem sc_is_whole : FnScope N_is_whole ["thing", "least", "most"] (defScope s_is_whole) := ⟨rfl, rfl, rfl, by decide +kernel, rfl, by decide +kernel, by decide +kernel⟩
abbrev N_is_one_of : List Str := ["thing", "names"]
theorem sc_is_one_of : FnScope N_is_one_of ["thing", "names"] (defScope s_is_one_of) := ⟨rfl, rfl, rfl, by decide +kernel, rfl, by decide +kernel, by decide +kernel⟩
abbrev N_is_name : List Str := ["thing", "letter"]
theorem sc_is_name : FnScope N_is_name ["thing"] (defScope s_is_name) := ⟨rfl, rfl, rfl, by decide +kernel, rfl, by decide +kernel, by decide +kernel⟩
abbrev N_is_figures : List Str := ["word", "sign"]
theorem sc_is_figures : FnScope N_is_figures ["word"] (defScope s_is_figures) := ⟨rfl, rfl, rfl, by decide +kernel, rfl, by decide +kernel, by decide +kernel⟩
abbrev N_read_number : List Str := ["word", "figures"]
theorem sc_read_number : FnScope N_read_number ["word"] (defScope s_read_number) := ⟨rfl, rfl, rfl, by decide +kernel, rfl, by decide +kernel, by decide +kernel⟩
abbrev N_read_bound : List Str := ["word"]
theorem sc_read_bound : FnScope N_read_bound ["word"] (defScope s_read_bound) := ⟨rfl, rfl, rfl, by decide +kernel, rfl, by decide +kernel, by decide +kernel⟩
abbrev N_read_name : List Str := ["word"]
theorem sc_read_name : FnScope N_read_name ["word"] (defScope s_read_name) := ⟨rfl, rfl, rfl, by decide +kernel, rfl, by decide +kernel, by decide +kernel⟩
abbrev N_written : List Str := ["thing"]
theorem sc_written : FnScope N_written ["thing"] (defScope s_written) := ⟨rfl, rfl, rfl, by decide +kernel, rfl, by decide +kernel, by decide +kernel⟩
abbrev N_read_words : List Str := ["form", "words", "kind", "word"]
theorem sc_read_words : FnScope N_read_words ["form", "words"] (defScope s_read_words) := ⟨rfl, rfl, rfl, by decide +kernel, rfl, by decide +kernel, by decide +kernel⟩
abbrev N_read_word : List Str := ["kind", "word", "reader"]
theorem sc_read_word : FnScope N_read_word ["kind", "word"] (defScope s_read_word) := ⟨rfl, rfl, rfl, by decide +kernel, rfl, by decide +kernel, by decide +kernel⟩
abbrev N_need_deed : List Str := ["deed", "word"]
theorem sc_need_deed : FnScope N_need_deed ["deed"] (defScope s_need_deed) := ⟨rfl, rfl, rfl, by decide +kernel, rfl, by decide +kernel, by decide +kernel⟩
abbrev N_with_deed : List Str := ["web", "deed", "word", "things", "end", "begin", "low", "high", "late", "one", "other", "least", "most"]
theorem sc_with_deed : FnScope N_with_deed ["web", "deed"] (defScope s_with_deed) := ⟨rfl, rfl, rfl, by decide +kernel, rfl, by decide +kernel, by decide +kernel⟩
abbrev N_write_deed : List Str := ["deed", "thing"]
theorem sc_write_deed : FnScope N_write_deed ["deed"] (defScope s_write_deed) := ⟨rfl, rfl, rfl, by decide +kernel, rfl, by decide +kernel, by decide +kernel⟩
abbrev N_read_deed : List Str := ["text", "word", "words", "things"]
theorem sc_read_deed : FnScope N_read_deed ["text"] (defScope s_read_deed) := ⟨rfl, rfl, rfl, by decide +kernel, rfl, by decide +kernel, by decide +kernel⟩
abbrev N_write_line : List Str := ["done", "deeds", "deed"]
theorem sc_write_line : FnScope N_write_line ["done"] (defScope s_write_line) := ⟨rfl, rfl, rfl, by decide +kernel, rfl, by decide +kernel, by decide +kernel⟩
abbrev N_do_line : List Str := ["log", "line", "deeds", "text"]
theorem sc_do_line : FnScope N_do_line ["log", "line"] (defScope s_do_line) := ⟨rfl, rfl, rfl, by decide +kernel, rfl, by decide +kernel, by decide +kernel⟩
abbrev N_Web_UinitU : List Str := ["self", "by"]
theorem sc_Web_UinitU : FnScope N_Web_UinitU ["self", "by"] (defScope s_Web_UinitU) := ⟨rfl, rfl, rfl, by decide +kernel, rfl, by decide +kernel, by decide +kernel⟩
abbrev N_Web_with_by : List Str := ["self", "by"]
theorem sc_Web_with_by : FnScope N_Web_with_by ["self", "by"] (defScope s_Web_with_by) := ⟨rfl, rfl, rfl, by decide +kernel, rfl, by decide +kernel, by decide +kernel⟩
abbrev N_Web_with_moment : List Str := ["self", "name"]
theorem sc_Web_with_moment : FnScope N_Web_with_moment ["self", "name"] (defScope s_Web_with_moment) := ⟨rfl, rfl, rfl, by decide +kernel, rfl, by decide +kernel, by decide +kernel⟩
abbrev N_Web_with_span : List Str := ["self", "end", "begin", "low", "high", "late", "span"]
theorem sc_Web_with_span : FnScope N_Web_with_span ["self", "end", "begin", "low", "high", "late"] (defScope s_Web_with_span) := ⟨rfl, rfl, rfl, by decide +kernel, rfl, by decide +kernel, by decide +kernel⟩
abbrev N_Web_with_tie : List Str := ["self", "one", "other", "least", "most", "tie"]
theorem sc_Web_with_tie : FnScope N_Web_with_tie ["self", "one", "other", "least", "most"] (defScope s_Web_with_tie) := ⟨rfl, rfl, rfl, by decide +kernel, rfl, by decide +kernel, by decide +kernel⟩
abbrev N_Web_without : List Str := ["self", "name", "moments", "spans", "moment", "span"]
theorem sc_Web_without : FnScope N_Web_without ["self", "name"] (defScope s_Web_without) := ⟨rfl, rfl, rfl, by decide +kernel, rfl, by decide +kernel, by decide +kernel⟩
abbrev N_Web_without_tie : List Str := ["self", "at", "ties"]
theorem sc_Web_without_tie : FnScope N_Web_without_tie ["self", "at"] (defScope s_Web_without_tie) := ⟨rfl, rfl, rfl, by decide +kernel, rfl, by decide +kernel, by decide +kernel⟩
abbrev N_Web_moments : List Str := ["self"]
theorem sc_Web_moments : FnScope N_Web_moments ["self"] (defScope s_Web_moments) := ⟨rfl, rfl, rfl, by decide +kernel, rfl, by decide +kernel, by decide +kernel⟩
abbrev N_Web_spans : List Str := ["self"]
theorem sc_Web_spans : FnScope N_Web_spans ["self"] (defScope s_Web_spans) := ⟨rfl, rfl, rfl, by decide +kernel, rfl, by decide +kernel, by decide +kernel⟩
abbrev N_Web_ties : List Str := ["self"]
theorem sc_Web_ties : FnScope N_Web_ties ["self"] (defScope s_Web_ties) := ⟨rfl, rfl, rfl, by decide +kernel, rfl, by decide +kernel, by decide +kernel⟩
abbrev N_Web_points : List Str := ["self", "ends", "span"]
theorem sc_Web_points : FnScope N_Web_points ["self"] (defScope s_Web_points) := ⟨rfl, rfl, rfl, by decide +kernel, rfl, by decide +kernel, by decide +kernel⟩
abbrev N_Web_UeqU : List Str := ["self", "other"]
theorem sc_Web_UeqU : FnScope N_Web_UeqU ["self", "other"] (defScope s_Web_UeqU) := ⟨rfl, rfl, rfl, by decide +kernel, rfl, by decide +kernel, by decide +kernel⟩
abbrev N_Web_UlenU : List Str := ["self"]
theorem sc_Web_UlenU : FnScope N_Web_UlenU ["self"] (defScope s_Web_UlenU) := ⟨rfl, rfl, rfl, by decide +kernel, rfl, by decide +kernel, by decide +kernel⟩
abbrev N_Web_UreprU : List Str := ["self"]
theorem sc_Web_UreprU : FnScope N_Web_UreprU ["self"] (defScope s_Web_UreprU) := ⟨rfl, rfl, rfl, by decide +kernel, rfl, by decide +kernel, by decide +kernel⟩
abbrev N_woven : List Str := ["by", "moments", "spans", "ties", "web"]
theorem sc_woven : FnScope N_woven ["by", "moments", "spans", "ties"] (defScope s_woven) := ⟨rfl, rfl, rfl, by decide +kernel, rfl, by decide +kernel, by decide +kernel⟩
abbrev N_is_begin : List Str := ["web", "name"]
theorem sc_is_begin : FnScope N_is_begin ["web", "name"] (defScope s_is_begin) := ⟨rfl, rfl, rfl, by decide +kernel, rfl, by decide +kernel, by decide +kernel⟩
abbrev N_are_lengths : List Str := ["low", "high"]
theorem sc_are_lengths : FnScope N_are_lengths ["low", "high"] (defScope s_are_lengths) := ⟨rfl, rfl, rfl, by decide +kernel, rfl, by decide +kernel, by decide +kernel⟩
abbrev N_is_lateness : List Str := ["late"]
theorem sc_is_lateness : FnScope N_is_lateness ["late"] (defScope s_is_lateness) := ⟨rfl, rfl, rfl, by decide +kernel, rfl, by decide +kernel, by decide +kernel⟩
abbrev N_is_used : List Str := ["web", "name", "begins", "span", "tie"]
theorem sc_is_used : FnScope N_is_used ["web", "name"] (defScope s_is_used) := ⟨rfl, rfl, rfl, by decide +kernel, rfl, by decide +kernel, by decide +kernel⟩
abbrev N_are_bounds : List Str := ["least", "most", "told", "bound"]
theorem sc_are_bounds : FnScope N_are_bounds ["least", "most"] (defScope s_are_bounds) := ⟨rfl, rfl, rfl, by decide +kernel, rfl, by decide +kernel, by decide +kernel⟩
abbrev N_need_free_name : List Str := ["web", "name"]
theorem sc_need_free_name : FnScope N_need_free_name ["web", "name"] (defScope s_need_free_name) := ⟨rfl, rfl, rfl, by decide +kernel, rfl, by decide +kernel, by decide +kernel⟩
abbrev N_need_point : List Str := ["web", "name"]
theorem sc_need_point : FnScope N_need_point ["web", "name"] (defScope s_need_point) := ⟨rfl, rfl, rfl, by decide +kernel, rfl, by decide +kernel, by decide +kernel⟩
abbrev N_Log_UinitU : List Str := ["self", "by"]
theorem sc_Log_UinitU : FnScope N_Log_UinitU ["self", "by"] (defScope s_Log_UinitU) := ⟨rfl, rfl, rfl, by decide +kernel, rfl, by decide +kernel, by decide +kernel⟩
abbrev N_Log_do : List Str := ["self", "deed"]
theorem sc_Log_do : FnScope N_Log_do ["self", "deed"] (defScope s_Log_do) := ⟨rfl, rfl, rfl, by decide +kernel, rfl, by decide +kernel, by decide +kernel⟩
abbrev N_Log_deal : List Str := ["self", "deeds", "deed"]
theorem sc_Log_deal : FnScope N_Log_deal ["self", "deeds"] (defScope s_Log_deal) := ⟨rfl, rfl, rfl, by decide +kernel, rfl, by decide +kernel, by decide +kernel⟩
abbrev N_Log_now : List Str := ["self"]
theorem sc_Log_now : FnScope N_Log_now ["self"] (defScope s_Log_now) := ⟨rfl, rfl, rfl, by decide +kernel, rfl, by decide +kernel, by decide +kernel⟩
abbrev N_Log_deeds : List Str := ["self", "deeds"]
theorem sc_Log_deeds : FnScope N_Log_deeds ["self"] (defScope s_Log_deeds) := ⟨rfl, rfl, rfl, by decide +kernel, rfl, by decide +kernel, by decide +kernel⟩
abbrev N_Log_undo : List Str := ["self", "deeds"]
theorem sc_Log_undo : FnScope N_Log_undo ["self"] (defScope s_Log_undo) := ⟨rfl, rfl, rfl, by decide +kernel, rfl, by decide +kernel, by decide +kernel⟩
abbrev N_Log_redo : List Str := ["self", "deeds", "web"]
theorem sc_Log_redo : FnScope N_Log_redo ["self"] (defScope s_Log_redo) := ⟨rfl, rfl, rfl, by decide +kernel, rfl, by decide +kernel, by decide +kernel⟩
abbrev N_Log_as_of : List Str := ["self", "count"]
theorem sc_Log_as_of : FnScope N_Log_as_of ["self", "count"] (defScope s_Log_as_of) := ⟨rfl, rfl, rfl, by decide +kernel, rfl, by decide +kernel, by decide +kernel⟩
abbrev N_Log_UlenU : List Str := ["self"]
theorem sc_Log_UlenU : FnScope N_Log_UlenU ["self"] (defScope s_Log_UlenU) := ⟨rfl, rfl, rfl, by decide +kernel, rfl, by decide +kernel, by decide +kernel⟩
abbrev N_do_whole : List Str := ["log", "deeds", "web", "deed"]
theorem sc_do_whole : FnScope N_do_whole ["log", "deeds"] (defScope s_do_whole) := ⟨rfl, rfl, rfl, by decide +kernel, rfl, by decide +kernel, by decide +kernel⟩
abbrev N_as_told : List Str := ["deeds"]
theorem sc_as_told : FnScope N_as_told ["deeds"] (defScope s_as_told) := ⟨rfl, rfl, rfl, by decide +kernel, rfl, by decide +kernel, by decide +kernel⟩
abbrev N_page : List Str := ["log", "lines", "done"]
theorem sc_page : FnScope N_page ["log"] (defScope s_page) := ⟨rfl, rfl, rfl, by decide +kernel, rfl, by decide +kernel, by decide +kernel⟩
abbrev N_read_page : List Str := ["text", "first", "lines", "log", "row", "line"]
theorem sc_read_page : FnScope N_read_page ["text"] (defScope s_read_page) := ⟨rfl, rfl, rfl, by decide +kernel, rfl, by decide +kernel, by decide +kernel⟩
abbrev N_begun_log : List Str := ["line", "word", "words", "numbers"]
theorem sc_begun_log : FnScope N_begun_log ["line"] (defScope s_begun_log) := ⟨rfl, rfl, rfl, by decide +kernel, rfl, by decide +kernel, by decide +kernel⟩
abbrev N__law_flow : List Str := ["_law_script"]
theorem sc__law_flow : FnScope N__law_flow ["_law_script"] (defScope s__law_flow) := ⟨rfl, rfl, rfl, by decide +kernel, rfl, by decide +kernel, by decide +kernel⟩
abbrev N__law_draw : List Str := ["_law_flow_here", "_law_size", "_law_found", "_law_cell", "_law_here"]
theorem sc__law_draw : FnScope N__law_draw ["_law_flow_here", "_law_size"] (defScope s__law_draw) := ⟨rfl, rfl, rfl, by decide +kernel, rfl, by decide +kernel, by decide +kernel⟩
abbrev N__law_pick : List Str := ["_law_flow_here", "_law_row"]
theorem sc__law_pick : FnScope N__law_pick ["_law_flow_here", "_law_row"] (defScope s__law_pick) := ⟨rfl, rfl, rfl, by decide +kernel, rfl, by decide +kernel, by decide +kernel⟩
abbrev N__law_same : List Str := ["_law_found", "_law_due", "_law_key", "_law_k"]
theorem sc__law_same : FnScope N__law_same ["_law_found", "_law_due"] (defScope s__law_same) := ⟨rfl, rfl, rfl, by decide +kernel, rfl, by decide +kernel, by decide +kernel⟩
abbrev N__law_why : List Str := ["_law_ask", "_law_found", "_law_word", "e"]
theorem sc__law_why : FnScope N__law_why ["_law_ask"] (defScope s__law_why) := ⟨rfl, rfl, rfl, by decide +kernel, rfl, by decide +kernel, by decide +kernel⟩
abbrev N__law_model : List Str := ["_law_last"]
theorem sc__law_model : FnScope N__law_model ["_law_last"] (defScope s__law_model) := ⟨rfl, rfl, rfl, by decide +kernel, rfl, by decide +kernel, by decide +kernel⟩
abbrev N__law_points : List Str := ["_law_m", "_law_wind"]
theorem sc__law_points : FnScope N__law_points ["_law_m"] (defScope s__law_points) := ⟨rfl, rfl, rfl, by decide +kernel, rfl, by decide +kernel, by decide +kernel⟩
abbrev N__law_bond : List Str := ["_law_flow_here", "_law_points_here", "_law_far", "_law_rest", "_law_one", "_law_other", "_law_low", "_law_high", "_law_kind"]
theorem sc__law_bond : FnScope N__law_bond ["_law_flow_here", "_law_points_here", "_law_far"] (defScope s__law_bond) := ⟨rfl, rfl, rfl, by decide +kernel, rfl, by decide +kernel, by decide +kernel⟩
abbrev N__law_stands : List Str := ["_law_web", "_law_m", "_law_points_here", "_law_found", "_law_text"]
theorem sc__law_stands : FnScope N__law_stands ["_law_web", "_law_m"] (defScope s__law_stands) := ⟨rfl, rfl, rfl, by decide +kernel, rfl, by decide +kernel, by decide +kernel⟩
abbrev N__law_copy : List Str := ["_law_m"]
theorem sc__law_copy : FnScope N__law_copy ["_law_m"] (defScope s__law_copy) := ⟨rfl, rfl, rfl, by decide +kernel, rfl, by decide +kernel, by decide +kernel⟩
abbrev N__law_whole : List Str := ["_law_thing", "_law_low", "_law_high"]
theorem sc__law_whole : FnScope N__law_whole ["_law_thing", "_law_low", "_law_high"] (defScope s__law_whole) := ⟨rfl, rfl, rfl, by decide +kernel, rfl, by decide +kernel, by decide +kernel⟩
abbrev N__law_tie_due : List Str := ["_law_m", "_law_one", "_law_other", "_law_bot", "_law_top", "_law_name", "_law_good", "_law_edge"]
theorem sc__law_tie_due : FnScope N__law_tie_due ["_law_m", "_law_one", "_law_other", "_law_bot", "_law_top"] (defScope s__law_tie_due) := ⟨rfl, rfl, rfl, by decide +kernel, rfl, by decide +kernel, by decide +kernel⟩
abbrev N__law_deed_line : List Str := ["_law_deed", "_law_one"]
theorem sc__law_deed_line : FnScope N__law_deed_line ["_law_deed"] (defScope s__law_deed_line) := ⟨rfl, rfl, rfl, by decide +kernel, rfl, by decide +kernel, by decide +kernel⟩
abbrev N__law_name_good : List Str := ["_law_name", "_law_sign"]
theorem sc__law_name_good : FnScope N__law_name_good ["_law_name"] (defScope s__law_name_good) := ⟨rfl, rfl, rfl, by decide +kernel, rfl, by decide +kernel, by decide +kernel⟩
abbrev N__law_new_due : List Str := ["_law_m", "_law_name"]
theorem sc__law_new_due : FnScope N__law_new_due ["_law_m", "_law_name"] (defScope s__law_new_due) := ⟨rfl, rfl, rfl, by decide +kernel, rfl, by decide +kernel, by decide +kernel⟩
abbrev N__law_span_word : List Str := ["_law_m", "_law_deed", "_law_end", "_law_begin", "_law_low", "_law_high", "_law_hush"]
theorem sc__law_span_word : FnScope N__law_span_word ["_law_m", "_law_deed"] (defScope s__law_span_word) := ⟨rfl, rfl, rfl, by decide +kernel, rfl, by decide +kernel, by decide +kernel⟩
abbrev N__law_without_word : List Str := ["_law_m", "_law_name", "_law_used", "_law_wind", "_law_bond_here"]
theorem sc__law_without_word : FnScope N__law_without_word ["_law_m", "_law_name"] (defScope s__law_without_word) := ⟨rfl, rfl, rfl, by decide +kernel, rfl, by decide +kernel, by decide +kernel⟩
abbrev N__law_deed_word : List Str := ["_law_m", "_law_deed", "_law_word", "_law_due"]
theorem sc__law_deed_word : FnScope N__law_deed_word ["_law_m", "_law_deed"] (defScope s__law_deed_word) := ⟨rfl, rfl, rfl, by decide +kernel, rfl, by decide +kernel, by decide +kernel⟩
abbrev N__law_deed_done : List Str := ["_law_m", "_law_deed", "_law_found", "_law_word", "_law_name", "_law_wind"]
theorem sc__law_deed_done : FnScope N__law_deed_done ["_law_m", "_law_deed"] (defScope s__law_deed_done) := ⟨rfl, rfl, rfl, by decide +kernel, rfl, by decide +kernel, by decide +kernel⟩
abbrev N__law_some_deed : List Str := ["_law_flow_here", "_law_m", "_law_kind", "_law_points_here", "_law_fresh", "_law_low", "_law_begin", "_law_hush", "_law_one", "_law_other", "_law_bot", "_law_top"]
theorem sc__law_some_deed : FnScope N__law_some_deed ["_law_flow_here", "_law_m"] (defScope s__law_some_deed) := ⟨rfl, rfl, rfl, by decide +kernel, rfl, by decide +kernel, by decide +kernel⟩
abbrev N__law_log_stands : List Str := ["_law_log", "_law_stands_here", "_law_m", "_law_pair"]
theorem sc__law_log_stands : FnScope N__law_log_stands ["_law_log", "_law_stands_here"] (defScope s__law_log_stands) := ⟨rfl, rfl, rfl, by decide +kernel, rfl, by decide +kernel, by decide +kernel⟩
abbrev N__law_dealt : List Str := ["_law_m", "_law_deeds", "_law_word", "_law_deed"]
theorem sc__law_dealt : FnScope N__law_dealt ["_law_m", "_law_deeds"] (defScope s__law_dealt) := ⟨rfl, rfl, rfl, by decide +kernel, rfl, by decide +kernel, by decide +kernel⟩
abbrev N__law_some_entry : List Str := ["_law_flow_here", "_law_m", "_law_deeds", "_law_here", "_law_k", "_law_deed"]
theorem sc__law_some_entry : FnScope N__law_some_entry ["_law_flow_here", "_law_m"] (defScope s__law_some_entry) := ⟨rfl, rfl, rfl, by decide +kernel, rfl, by decide +kernel, by decide +kernel⟩
abbrev N__law_entry_word : List Str := ["_law_m", "_law_entry", "_law_word"]
theorem sc__law_entry_word : FnScope N__law_entry_word ["_law_m", "_law_entry"] (defScope s__law_entry_word) := ⟨rfl, rfl, rfl, by decide +kernel, rfl, by decide +kernel, by decide +kernel⟩
abbrev N__law_log_turn : List Str := ["_law_flow_here", "_law_log", "_law_stands_here", "_law_waits", "_law_kind", "_law_found", "_law_m", "_law_entry", "_law_word", "_law_later", "_law_handed", "_law_ask", "_law_told"]
theorem sc__law_log_turn : FnScope N__law_log_turn ["_law_flow_here", "_law_log", "_law_stands_here", "_law_waits"] (defScope s__law_log_turn) := ⟨rfl, rfl, rfl, by decide +kernel, rfl, by decide +kernel, by decide +kernel⟩
abbrev N__law_entry_line : List Str := ["_law_entry", "_law_deed"]
theorem sc__law_entry_line : FnScope N__law_entry_line ["_law_entry"] (defScope s__law_entry_line) := ⟨rfl, rfl, rfl, by decide +kernel, rfl, by decide +kernel, by decide +kernel⟩
abbrev N__law_page : List Str := ["_law_last", "_law_stands_here", "_law_rows", "_law_pair"]
theorem sc__law_page : FnScope N__law_page ["_law_last", "_law_stands_here"] (defScope s__law_page) := ⟨rfl, rfl, rfl, by decide +kernel, rfl, by decide +kernel, by decide +kernel⟩
abbrev N__law_told_right : List Str := ["_law_found", "_law_entry"]
theorem sc__law_told_right : FnScope N__law_told_right ["_law_found", "_law_entry"] (defScope s__law_told_right) := ⟨rfl, rfl, rfl, by decide +kernel, rfl, by decide +kernel, by decide +kernel⟩
abbrev N_law : List Str := ["_law_script", "_law_flow_here", "_law_last", "_law_log", "_law_stands_here", "_law_waits", "_law_turn", "_law_text", "_law_one", "_law_two", "_law_mine", "_law_mine_waits", "_law_at"]
theorem sc_law : FnScope N_law ["_law_script"] (defScope s_law) := ⟨rfl, rfl, rfl, by decide +kernel, rfl, by decide +kernel, by decide +kernel⟩
def d_TideError_UinitU : He.DefD := ⟨("TideError", some "__init__"), "__init__", "TideError.__init__", defArgs s_TideError_UinitU, defBody s_TideError_UinitU, defScope s_TideError_UinitU, [.str "TideError", .str "refused"], []⟩
def d_BadBy_UinitU : He.DefD := ⟨("BadBy", some "__init__"), "__init__", "BadBy.__init__", defArgs s_BadBy_UinitU, defBody s_BadBy_UinitU, defScope s_BadBy_UinitU, [], []⟩
def d_BadName_UinitU : He.DefD := ⟨("BadName", some "__init__"), "__init__", "BadName.__init__", defArgs s_BadName_UinitU, defBody s_BadName_UinitU, defScope s_BadName_UinitU, [], []⟩
def d_Taken_UinitU : He.DefD := ⟨("Taken", some "__init__"), "__init__", "Taken.__init__", defArgs s_Taken_UinitU, defBody s_Taken_UinitU, defScope s_Taken_UinitU, [], []⟩
def d_Full_UinitU : He.DefD := ⟨("Full", some "__init__"), "__init__", "Full.__init__", defArgs s_Full_UinitU, defBody s_Full_UinitU, defScope s_Full_UinitU, [], []⟩
def d_BadLength_UinitU : He.DefD := ⟨("BadLength", some "__init__"), "__init__", "BadLength.__init__", defArgs s_BadLength_UinitU, defBody s_BadLength_UinitU, defScope s_BadLength_UinitU, [], []⟩
def d_BadLate_UinitU : He.DefD := ⟨("BadLate", some "__init__"), "__init__", "BadLate.__init__", defArgs s_BadLate_UinitU, defBody s_BadLate_UinitU, defScope s_BadLate_UinitU, [], []⟩
def d_BadTie_UinitU : He.DefD := ⟨("BadTie", some "__init__"), "__init__", "BadTie.__init__", defArgs s_BadTie_UinitU, defBody s_BadTie_UinitU, defScope s_BadTie_UinitU, [], []⟩
def d_Used_UinitU : He.DefD := ⟨("Used", some "__init__"), "__init__", "Used.__init__", defArgs s_Used_UinitU, defBody s_Used_UinitU, defScope s_Used_UinitU, [], []⟩
def d_BadText_UinitU : He.DefD := ⟨("BadText", some "__init__"), "__init__", "BadText.__init__", defArgs s_BadText_UinitU, defBody s_BadText_UinitU, defScope s_BadText_UinitU, [], []⟩
def d_BadDeed_UinitU : He.DefD := ⟨("BadDeed", some "__init__"), "__init__", "BadDeed.__init__", defArgs s_BadDeed_UinitU, defBody s_BadDeed_UinitU, defScope s_BadDeed_UinitU, [], []⟩
def d_Missing_UinitU : He.DefD := ⟨("Missing", some "__init__"), "__init__", "Missing.__init__", defArgs s_Missing_UinitU, defBody s_Missing_UinitU, defScope s_Missing_UinitU, [.str "Missing", .str "refused"], []⟩
def d_NoMoment_UinitU : He.DefD := ⟨("NoMoment", some "__init__"), "__init__", "NoMoment.__init__", defArgs s_NoMoment_UinitU, defBody s_NoMoment_UinitU, defScope s_NoMoment_UinitU, [], []⟩
def d_NoPoint_UinitU : He.DefD := ⟨("NoPoint", some "__init__"), "__init__", "NoPoint.__init__", defArgs s_NoPoint_UinitU, defBody s_NoPoint_UinitU, defScope s_NoPoint_UinitU, [], []⟩
def d_NoTie_UinitU : He.DefD := ⟨("NoTie", some "__init__"), "__init__", "NoTie.__init__", defArgs s_NoTie_UinitU, defBody s_NoTie_UinitU, defScope s_NoTie_UinitU, [], []⟩
def d_NoDeed_UinitU : He.DefD := ⟨("NoDeed", some "__init__"), "__init__", "NoDeed.__init__", defArgs s_NoDeed_UinitU, defBody s_NoDeed_UinitU, defScope s_NoDeed_UinitU, [], []⟩
def d_RunFault_UinitU : He.DefD := ⟨("RunFault", some "__init__"), "__init__", "RunFault.__init__", defArgs s_RunFault_UinitU, defBody s_RunFault_UinitU, defScope s_RunFault_UinitU, [.str "RunFault", .str "refused"], []⟩
def d_NothingBack_UinitU : He.DefD := ⟨("NothingBack", some "__init__"), "__init__", "NothingBack.__init__", defArgs s_NothingBack_UinitU, defBody s_NothingBack_UinitU, defScope s_NothingBack_UinitU, [], []⟩
def d_is_number : He.DefD := ⟨("is_number", none), "is_number", "is_number", defArgs s_is_number, defBody s_is_number, defScope s_is_number, [], []⟩
def d_is_whole : He.DefD := ⟨("is_whole", none), "is_whole", "is_whole", defArgs s_is_whole, defBody s_is_whole, defScope s_is_whole, [], []⟩
def d_is_one_of : He.DefD := ⟨("is_one_of", none), "is_one_of", "is_one_of", defArgs s_is_one_of, defBody s_is_one_of, defScope s_is_one_of, [], []⟩
def d_is_name : He.DefD := ⟨("is_name", none), "is_name", "is_name", defArgs s_is_name, defBody s_is_name, defScope s_is_name, [], []⟩
def d_is_figures : He.DefD := ⟨("is_figures", none), "is_figures", "is_figures", defArgs s_is_figures, defBody s_is_figures, defScope s_is_figures, [], []⟩
def d_read_number : He.DefD := ⟨("read_number", none), "read_number", "read_number", defArgs s_read_number, defBody s_read_number, defScope s_read_number, [], []⟩
def d_read_bound : He.DefD := ⟨("read_bound", none), "read_bound", "read_bound", defArgs s_read_bound, defBody s_read_bound, defScope s_read_bound, [], []⟩
def d_read_name : He.DefD := ⟨("read_name", none), "read_name", "read_name", defArgs s_read_name, defBody s_read_name, defScope s_read_name, [], []⟩
def d_written : He.DefD := ⟨("written", none), "written", "written", defArgs s_written, defBody s_written, defScope s_written, [], []⟩
def d_read_words : He.DefD := ⟨("read_words", none), "read_words", "read_words", defArgs s_read_words, defBody s_read_words, defScope s_read_words, [], []⟩
def d_read_word : He.DefD := ⟨("read_word", none), "read_word", "read_word", defArgs s_read_word, defBody s_read_word, defScope s_read_word, [], []⟩
def d_need_deed : He.DefD := ⟨("need_deed", none), "need_deed", "need_deed", defArgs s_need_deed, defBody s_need_deed, defScope s_need_deed, [], []⟩
def d_with_deed : He.DefD := ⟨("with_deed", none), "with_deed", "with_deed", defArgs s_with_deed, defBody s_with_deed, defScope s_with_deed, [], []⟩
def d_write_deed : He.DefD := ⟨("write_deed", none), "write_deed", "write_deed", defArgs s_write_deed, defBody s_write_deed, defScope s_write_deed, [], []⟩
def d_read_deed : He.DefD := ⟨("read_deed", none), "read_deed", "read_deed", defArgs s_read_deed, defBody s_read_deed, defScope s_read_deed, [], []⟩
def d_write_line : He.DefD := ⟨("write_line", none), "write_line", "write_line", defArgs s_write_line, defBody s_write_line, defScope s_write_line, [], []⟩
def d_do_line : He.DefD := ⟨("do_line", none), "do_line", "do_line", defArgs s_do_line, defBody s_do_line, defScope s_do_line, [], []⟩
def d_Web_UinitU : He.DefD := ⟨("Web", some "__init__"), "__init__", "Web.__init__", defArgs s_Web_UinitU, defBody s_Web_UinitU, defScope s_Web_UinitU, [.int 100], []⟩
def d_Web_with_by : He.DefD := ⟨("Web", some "with_by"), "with_by", "Web.with_by", defArgs s_Web_with_by, defBody s_Web_with_by, defScope s_Web_with_by, [], []⟩
def d_Web_with_moment : He.DefD := ⟨("Web", some "with_moment"), "with_moment", "Web.with_moment", defArgs s_Web_with_moment, defBody s_Web_with_moment, defScope s_Web_with_moment, [], []⟩
def d_Web_with_span : He.DefD := ⟨("Web", some "with_span"), "with_span", "Web.with_span", defArgs s_Web_with_span, defBody s_Web_with_span, defScope s_Web_with_span, [], [("late", .int 0)]⟩
def d_Web_with_tie : He.DefD := ⟨("Web", some "with_tie"), "with_tie", "Web.with_tie", defArgs s_Web_with_tie, defBody s_Web_with_tie, defScope s_Web_with_tie, [], [("least", .non), ("most", .non)]⟩
def d_Web_without : He.DefD := ⟨("Web", some "without"), "without", "Web.without", defArgs s_Web_without, defBody s_Web_without, defScope s_Web_without, [], []⟩
def d_Web_without_tie : He.DefD := ⟨("Web", some "without_tie"), "without_tie", "Web.without_tie", defArgs s_Web_without_tie, defBody s_Web_without_tie, defScope s_Web_without_tie, [], []⟩
def d_Web_moments : He.DefD := ⟨("Web", some "moments"), "moments", "Web.moments", defArgs s_Web_moments, defBody s_Web_moments, defScope s_Web_moments, [], []⟩
def d_Web_spans : He.DefD := ⟨("Web", some "spans"), "spans", "Web.spans", defArgs s_Web_spans, defBody s_Web_spans, defScope s_Web_spans, [], []⟩
def d_Web_ties : He.DefD := ⟨("Web", some "ties"), "ties", "Web.ties", defArgs s_Web_ties, defBody s_Web_ties, defScope s_Web_ties, [], []⟩
def d_Web_points : He.DefD := ⟨("Web", some "points"), "points", "Web.points", defArgs s_Web_points, defBody s_Web_points, defScope s_Web_points, [], []⟩
def d_Web_UeqU : He.DefD := ⟨("Web", some "__eq__"), "__eq__", "Web.__eq__", defArgs s_Web_UeqU, defBody s_Web_UeqU, defScope s_Web_UeqU, [], []⟩
def d_Web_UlenU : He.DefD := ⟨("Web", some "__len__"), "__len__", "Web.__len__", defArgs s_Web_UlenU, defBody s_Web_UlenU, defScope s_Web_UlenU, [], []⟩
def d_Web_UreprU : He.DefD := ⟨("Web", some "__repr__"), "__repr__", "Web.__repr__", defArgs s_Web_UreprU, defBody s_Web_UreprU, defScope s_Web_UreprU, [], []⟩
def d_woven : He.DefD := ⟨("woven", none), "woven", "woven", defArgs s_woven, defBody s_woven, defScope s_woven, [], []⟩
def d_is_begin : He.DefD := ⟨("is_begin", none), "is_begin", "is_begin", defArgs s_is_begin, defBody s_is_begin, defScope s_is_begin, [], []⟩
def d_are_lengths : He.DefD := ⟨("are_lengths", none), "are_lengths", "are_lengths", defArgs s_are_lengths, defBody s_are_lengths, defScope s_are_lengths, [], []⟩
def d_is_lateness : He.DefD := ⟨("is_lateness", none), "is_lateness", "is_lateness", defArgs s_is_lateness, defBody s_is_lateness, defScope s_is_lateness, [], []⟩
def d_is_used : He.DefD := ⟨("is_used", none), "is_used", "is_used", defArgs s_is_used, defBody s_is_used, defScope s_is_used, [], []⟩
def d_are_bounds : He.DefD := ⟨("are_bounds", none), "are_bounds", "are_bounds", defArgs s_are_bounds, defBody s_are_bounds, defScope s_are_bounds, [], []⟩
def d_need_free_name : He.DefD := ⟨("need_free_name", none), "need_free_name", "need_free_name", defArgs s_need_free_name, defBody s_need_free_name, defScope s_need_free_name, [], []⟩
def d_need_point : He.DefD := ⟨("need_point", none), "need_point", "need_point", defArgs s_need_point, defBody s_need_point, defScope s_need_point, [], []⟩
def d_Log_UinitU : He.DefD := ⟨("Log", some "__init__"), "__init__", "Log.__init__", defArgs s_Log_UinitU, defBody s_Log_UinitU, defScope s_Log_UinitU, [.int 100], []⟩
def d_Log_do : He.DefD := ⟨("Log", some "do"), "do", "Log.do", defArgs s_Log_do, defBody s_Log_do, defScope s_Log_do, [], []⟩
def d_Log_deal : He.DefD := ⟨("Log", some "deal"), "deal", "Log.deal", defArgs s_Log_deal, defBody s_Log_deal, defScope s_Log_deal, [], []⟩
def d_Log_now : He.DefD := ⟨("Log", some "now"), "now", "Log.now", defArgs s_Log_now, defBody s_Log_now, defScope s_Log_now, [], []⟩
def d_Log_deeds : He.DefD := ⟨("Log", some "deeds"), "deeds", "Log.deeds", defArgs s_Log_deeds, defBody s_Log_deeds, defScope s_Log_deeds, [], []⟩
def d_Log_undo : He.DefD := ⟨("Log", some "undo"), "undo", "Log.undo", defArgs s_Log_undo, defBody s_Log_undo, defScope s_Log_undo, [], []⟩
def d_Log_redo : He.DefD := ⟨("Log", some "redo"), "redo", "Log.redo", defArgs s_Log_redo, defBody s_Log_redo, defScope s_Log_redo, [], []⟩
def d_Log_as_of : He.DefD := ⟨("Log", some "as_of"), "as_of", "Log.as_of", defArgs s_Log_as_of, defBody s_Log_as_of, defScope s_Log_as_of, [], []⟩
def d_Log_UlenU : He.DefD := ⟨("Log", some "__len__"), "__len__", "Log.__len__", defArgs s_Log_UlenU, defBody s_Log_UlenU, defScope s_Log_UlenU, [], []⟩
def d_do_whole : He.DefD := ⟨("do_whole", none), "do_whole", "do_whole", defArgs s_do_whole, defBody s_do_whole, defScope s_do_whole, [], []⟩
def d_as_told : He.DefD := ⟨("as_told", none), "as_told", "as_told", defArgs s_as_told, defBody s_as_told, defScope s_as_told, [], []⟩
def d_page : He.DefD := ⟨("page", none), "page", "page", defArgs s_page, defBody s_page, defScope s_page, [], []⟩
def d_read_page : He.DefD := ⟨("read_page", none), "read_page", "read_page", defArgs s_read_page, defBody s_read_page, defScope s_read_page, [], []⟩
def d_begun_log : He.DefD := ⟨("begun_log", none), "begun_log", "begun_log", defArgs s_begun_log, defBody s_begun_log, defScope s_begun_log, [], []⟩
def d__law_flow : He.DefD := ⟨("_law_flow", none), "_law_flow", "_law_flow", defArgs s__law_flow, defBody s__law_flow, defScope s__law_flow, [], []⟩
def d__law_draw : He.DefD := ⟨("_law_draw", none), "_law_draw", "_law_draw", defArgs s__law_draw, defBody s__law_draw, defScope s__law_draw, [], []⟩
def d__law_pick : He.DefD := ⟨("_law_pick", none), "_law_pick", "_law_pick", defArgs s__law_pick, defBody s__law_pick, defScope s__law_pick, [], []⟩
def d__law_same : He.DefD := ⟨("_law_same", none), "_law_same", "_law_same", defArgs s__law_same, defBody s__law_same, defScope s__law_same, [], []⟩
def d__law_why : He.DefD := ⟨("_law_why", none), "_law_why", "_law_why", defArgs s__law_why, defBody s__law_why, defScope s__law_why, [], []⟩
def d__law_model : He.DefD := ⟨("_law_model", none), "_law_model", "_law_model", defArgs s__law_model, defBody s__law_model, defScope s__law_model, [], []⟩
def d__law_points : He.DefD := ⟨("_law_points", none), "_law_points", "_law_points", defArgs s__law_points, defBody s__law_points, defScope s__law_points, [], []⟩
def d__law_bond : He.DefD := ⟨("_law_bond", none), "_law_bond", "_law_bond", defArgs s__law_bond, defBody s__law_bond, defScope s__law_bond, [], []⟩
def d__law_stands : He.DefD := ⟨("_law_stands", none), "_law_stands", "_law_stands", defArgs s__law_stands, defBody s__law_stands, defScope s__law_stands, [], []⟩
def d__law_copy : He.DefD := ⟨("_law_copy", none), "_law_copy", "_law_copy", defArgs s__law_copy, defBody s__law_copy, defScope s__law_copy, [], []⟩
def d__law_whole : He.DefD := ⟨("_law_whole", none), "_law_whole", "_law_whole", defArgs s__law_whole, defBody s__law_whole, defScope s__law_whole, [], []⟩
def d__law_tie_due : He.DefD := ⟨("_law_tie_due", none), "_law_tie_due", "_law_tie_due", defArgs s__law_tie_due, defBody s__law_tie_due, defScope s__law_tie_due, [], []⟩
def d__law_deed_line : He.DefD := ⟨("_law_deed_line", none), "_law_deed_line", "_law_deed_line", defArgs s__law_deed_line, defBody s__law_deed_line, defScope s__law_deed_line, [], []⟩
def d__law_name_good : He.DefD := ⟨("_law_name_good", none), "_law_name_good", "_law_name_good", defArgs s__law_name_good, defBody s__law_name_good, defScope s__law_name_good, [], []⟩
def d__law_new_due : He.DefD := ⟨("_law_new_due", none), "_law_new_due", "_law_new_due", defArgs s__law_new_due, defBody s__law_new_due, defScope s__law_new_due, [], []⟩
def d__law_span_word : He.DefD := ⟨("_law_span_word", none), "_law_span_word", "_law_span_word", defArgs s__law_span_word, defBody s__law_span_word, defScope s__law_span_word, [], []⟩
def d__law_without_word : He.DefD := ⟨("_law_without_word", none), "_law_without_word", "_law_without_word", defArgs s__law_without_word, defBody s__law_without_word, defScope s__law_without_word, [], []⟩
def d__law_deed_word : He.DefD := ⟨("_law_deed_word", none), "_law_deed_word", "_law_deed_word", defArgs s__law_deed_word, defBody s__law_deed_word, defScope s__law_deed_word, [], []⟩
def d__law_deed_done : He.DefD := ⟨("_law_deed_done", none), "_law_deed_done", "_law_deed_done", defArgs s__law_deed_done, defBody s__law_deed_done, defScope s__law_deed_done, [], []⟩
def d__law_some_deed : He.DefD := ⟨("_law_some_deed", none), "_law_some_deed", "_law_some_deed", defArgs s__law_some_deed, defBody s__law_some_deed, defScope s__law_some_deed, [], []⟩
def d__law_log_stands : He.DefD := ⟨("_law_log_stands", none), "_law_log_stands", "_law_log_stands", defArgs s__law_log_stands, defBody s__law_log_stands, defScope s__law_log_stands, [], []⟩
def d__law_dealt : He.DefD := ⟨("_law_dealt", none), "_law_dealt", "_law_dealt", defArgs s__law_dealt, defBody s__law_dealt, defScope s__law_dealt, [], []⟩
def d__law_some_entry : He.DefD := ⟨("_law_some_entry", none), "_law_some_entry", "_law_some_entry", defArgs s__law_some_entry, defBody s__law_some_entry, defScope s__law_some_entry, [], []⟩
def d__law_entry_word : He.DefD := ⟨("_law_entry_word", none), "_law_entry_word", "_law_entry_word", defArgs s__law_entry_word, defBody s__law_entry_word, defScope s__law_entry_word, [], []⟩
def d__law_log_turn : He.DefD := ⟨("_law_log_turn", none), "_law_log_turn", "_law_log_turn", defArgs s__law_log_turn, defBody s__law_log_turn, defScope s__law_log_turn, [], []⟩
def d__law_entry_line : He.DefD := ⟨("_law_entry_line", none), "_law_entry_line", "_law_entry_line", defArgs s__law_entry_line, defBody s__law_entry_line, defScope s__law_entry_line, [], []⟩
def d__law_page : He.DefD := ⟨("_law_page", none), "_law_page", "_law_page", defArgs s__law_page, defBody s__law_page, defScope s__law_page, [], []⟩
def d__law_told_right : He.DefD := ⟨("_law_told_right", none), "_law_told_right", "_law_told_right", defArgs s__law_told_right, defBody s__law_told_right, defScope s__law_told_right, [], []⟩
def d_law : He.DefD := ⟨("law", none), "law", "law", defArgs s_law, defBody s_law, defScope s_law, [], []⟩
def fn : List He.DefD := [d_TideError_UinitU, d_BadBy_UinitU, d_BadName_UinitU, d_Taken_UinitU, d_Full_UinitU, d_BadLength_UinitU, d_BadLate_UinitU, d_BadTie_UinitU, d_Used_UinitU, d_BadText_UinitU, d_BadDeed_UinitU, d_Missing_UinitU, d_NoMoment_UinitU, d_NoPoint_UinitU, d_NoTie_UinitU, d_NoDeed_UinitU, d_RunFault_UinitU, d_NothingBack_UinitU, d_is_number, d_is_whole, d_is_one_of, d_is_name, d_is_figures, d_read_number, d_read_bound, d_read_name, d_written, d_read_words, d_read_word, d_need_deed, d_with_deed, d_write_deed, d_read_deed, d_write_line, d_do_line, d_Web_UinitU, d_Web_with_by, d_Web_with_moment, d_Web_with_span, d_Web_with_tie, d_Web_without, d_Web_without_tie, d_Web_moments, d_Web_spans, d_Web_ties, d_Web_points, d_Web_UeqU, d_Web_UlenU, d_Web_UreprU, d_woven, d_is_begin, d_are_lengths, d_is_lateness, d_is_used, d_are_bounds, d_need_free_name, d_need_point, d_Log_UinitU, d_Log_do, d_Log_deal, d_Log_now, d_Log_deeds, d_Log_undo, d_Log_redo, d_Log_as_of, d_Log_UlenU, d_do_whole, d_as_told, d_page, d_read_page, d_begun_log, d__law_flow, d__law_draw, d__law_pick, d__law_same, d__law_why, d__law_model, d__law_points, d__law_bond, d__law_stands, d__law_copy, d__law_whole, d__law_tie_due, d__law_deed_line, d__law_name_good, d__law_new_due, d__law_span_word, d__law_without_word, d__law_deed_word, d__law_deed_done, d__law_some_deed, d__law_log_stands, d__law_dealt, d__law_some_entry, d__law_entry_word, d__law_log_turn, d__law_entry_line, d__law_page, d__law_told_right, d_law]
def fa0 : List He.Fa := [.glo "is_number", .glo "is_whole", .glo "is_one_of", .glo "is_name", .glo "is_figures", .glo "read_number", .glo "read_bound", .glo "read_name", .glo "written", .glo "read_words", .glo "read_word", .glo "need_deed", .glo "with_deed", .glo "write_deed", .glo "read_deed", .glo "write_line", .glo "do_line", .glo "woven", .glo "is_begin", .glo "are_lengths", .glo "is_lateness", .glo "is_used", .glo "are_bounds", .glo "need_free_name", .glo "need_point", .glo "do_whole", .glo "as_told", .glo "page", .glo "read_page", .glo "begun_log"]
def fa1 : List He.Fa := [.glo "_law_flow", .glo "_law_draw", .glo "_law_pick", .glo "_law_same", .glo "_law_why", .glo "_law_model", .glo "_law_points", .glo "_law_bond", .glo "_law_stands", .glo "_law_copy", .glo "_law_whole", .glo "_law_tie_due", .glo "_law_deed_line", .glo "_law_name_good", .glo "_law_new_due", .glo "_law_span_word", .glo "_law_without_word", .glo "_law_deed_word", .glo "_law_deed_done", .glo "_law_some_deed", .glo "_law_log_stands", .glo "_law_dealt", .glo "_law_some_entry", .glo "_law_entry_word", .glo "_law_log_turn", .glo "_law_entry_line", .glo "_law_page", .glo "_law_told_right", .glo "law", .free "ValueError"]
def fa2 : List He.Fa := [.free "LookupError", .free "RuntimeError", .free "IndexError", .free "isinstance", .free "int", .free "bool", .free "str", .free "all", .free "len", .free "zip", .free "tuple", .free "list", .free "any", .free "enumerate", .free "abs", .free "dict", .free "range", .free "repr", .str "LETTERS" "abcdefghijklmnopqrstuvwxyz", .int "LONGEST_NAME" 8, .str "FIGURES" "0123456789", .int "MOST_FIGURES" 9, .str "NONE" "-", .int "BY" 100, .str "START" "start", .int "MOST_BY" 1000, .int "MOST_MOMENTS" 10, .int "MOST_SPANS" 4, .int "MOST_TIES" 40, .int "MOST_LENGTH" 1000]
def fa3 : List He.Fa := [.int "MOST_LATE" 1000, .int "MOST_BOUND" 1000, .glo "Web", .cls "Web", .mkr "Web", .noat "Web" "by", .noat "Web" "moment_rows", .noat "Web" "span_rows", .noat "Web" "tie_rows", .noat "Web" "__bool__", .noat "Log" "__bool__", .meth "Web" "__init__", .meth "Web" "with_by", .meth "Web" "with_moment", .meth "Web" "with_span", .meth "Web" "with_tie", .meth "Web" "without", .meth "Web" "without_tie", .meth "Web" "moments", .meth "Web" "spans", .meth "Web" "ties", .meth "Web" "points", .meth "Web" "__eq__", .meth "Web" "__len__", .meth "Web" "__repr__", .glo "Log", .cls "Log", .mkr "Log", .noat "Log" "webs", .noat "Log" "done"]
def fa4 : List He.Fa := [.noat "Log" "undone", .meth "Log" "__init__", .meth "Log" "do", .meth "Log" "deal", .meth "Log" "now", .meth "Log" "deeds", .meth "Log" "undo", .meth "Log" "redo", .meth "Log" "as_of", .meth "Log" "__len__", .glo "FORMS", .glo "READERS", .glo "TideError", .glo "Missing", .glo "RunFault", .glo "NothingBack", .glo "BadBy", .glo "BadName", .glo "Taken", .glo "Full", .glo "BadLength", .glo "BadLate", .glo "BadTie", .glo "Used", .glo "BadText", .glo "BadDeed", .glo "NoMoment", .glo "NoPoint", .glo "NoTie", .glo "NoDeed"]
def fa : List He.Fa := fa0 ++ fa1 ++ fa2 ++ fa3 ++ fa4
def exl0 (K : PySem.W.Frag) : List Bool := [frxB K (He.ga K "FORMS") "by" ["number"], frxB K (He.ga K "FORMS") "moment" ["name"], frxB K (He.ga K "FORMS") "span" ["name", "name", "number", "number", "bound"], frxB K (He.ga K "FORMS") "tie" ["name", "name", "bound", "bound"], frxB K (He.ga K "FORMS") "without" ["name"], frxB K (He.ga K "FORMS") "untie" ["number"], decide (PySem.W.nsIn K (He.ga K "READERS") "number" = some (some (.ref (He.ga K "read_number")))), decide (PySem.W.nsIn K (He.ga K "READERS") "bound" = some (some (.ref (He.ga K "read_bound")))), decide (PySem.W.nsIn K (He.ga K "READERS") "name" = some (some (.ref (He.ga K "read_name")))), viB K "ValueError" "ValueError.__init__", viB K "LookupError" "LookupError.__init__", viB K "RuntimeError" "RuntimeError.__init__", viB K "IndexError" "IndexError.__init__", clsDefB K (He.ga K "TideError") (He.ma K (He.ga K "TideError") "__init__") "__init__", oxB bVE K (He.ga K "BadBy"), xfB K (He.ga K "BadBy"), initB K (He.ga K "BadBy"), decide (PySem.W.findIn K (.ref (He.ga K "BadBy")) "word" = some none), decide (PySem.W.findIn K (.ref (He.ga K "BadBy")) "by" = some none), decide (PySem.W.exmAny K (.ref (He.ga K "BadBy")) [.ref (He.ga K "TideError"), .ref (He.ga K "Missing")] = some true)]
def exl1 (K : PySem.W.Frag) : List Bool := [decide (PySem.W.exmAny K (.ref (He.ga K "BadBy")) [.ref (He.ga K "TideError")] = some true), decide (PySem.W.exmAny K (.ref (He.ga K "BadBy")) [.ref (He.ga K "TideError")] = some true), decide (PySem.W.exmAny K (.ref (He.ga K "BadBy")) [.ref (He.ga K "Missing")] = some false), decide (PySem.W.exmAny K (.ref (He.ga K "BadBy")) [.ref (He.ga K "RunFault")] = some false), decide (PySem.W.exmAny K (.ref (He.ga K "BadBy")) [.ref (He.ga K "NothingBack")] = some false), oxB bVE K (He.ga K "BadName"), xfB K (He.ga K "BadName"), initB K (He.ga K "BadName"), decide (PySem.W.findIn K (.ref (He.ga K "BadName")) "word" = some none), decide (PySem.W.findIn K (.ref (He.ga K "BadName")) "name" = some none), decide (PySem.W.exmAny K (.ref (He.ga K "BadName")) [.ref (He.ga K "TideError"), .ref (He.ga K "Missing")] = some true), decide (PySem.W.exmAny K (.ref (He.ga K "BadName")) [.ref (He.ga K "TideError")] = some true), decide (PySem.W.exmAny K (.ref (He.ga K "BadName")) [.ref (He.ga K "TideError")] = some true), decide (PySem.W.exmAny K (.ref (He.ga K "BadName")) [.ref (He.ga K "Missing")] = some false), decide (PySem.W.exmAny K (.ref (He.ga K "BadName")) [.ref (He.ga K "RunFault")] = some false), decide (PySem.W.exmAny K (.ref (He.ga K "BadName")) [.ref (He.ga K "NothingBack")] = some false), oxB bVE K (He.ga K "Taken"), xfB K (He.ga K "Taken"), initB K (He.ga K "Taken"), decide (PySem.W.findIn K (.ref (He.ga K "Taken")) "word" = some none)]
def exl2 (K : PySem.W.Frag) : List Bool := [decide (PySem.W.findIn K (.ref (He.ga K "Taken")) "name" = some none), decide (PySem.W.exmAny K (.ref (He.ga K "Taken")) [.ref (He.ga K "TideError"), .ref (He.ga K "Missing")] = some true), decide (PySem.W.exmAny K (.ref (He.ga K "Taken")) [.ref (He.ga K "TideError")] = some true), decide (PySem.W.exmAny K (.ref (He.ga K "Taken")) [.ref (He.ga K "TideError")] = some true), decide (PySem.W.exmAny K (.ref (He.ga K "Taken")) [.ref (He.ga K "Missing")] = some false), decide (PySem.W.exmAny K (.ref (He.ga K "Taken")) [.ref (He.ga K "RunFault")] = some false), decide (PySem.W.exmAny K (.ref (He.ga K "Taken")) [.ref (He.ga K "NothingBack")] = some false), oxB bVE K (He.ga K "Full"), xfB K (He.ga K "Full"), initB K (He.ga K "Full"), decide (PySem.W.findIn K (.ref (He.ga K "Full")) "word" = some none), decide (PySem.W.findIn K (.ref (He.ga K "Full")) "most" = some none), decide (PySem.W.exmAny K (.ref (He.ga K "Full")) [.ref (He.ga K "TideError"), .ref (He.ga K "Missing")] = some true), decide (PySem.W.exmAny K (.ref (He.ga K "Full")) [.ref (He.ga K "TideError")] = some true), decide (PySem.W.exmAny K (.ref (He.ga K "Full")) [.ref (He.ga K "TideError")] = some true), decide (PySem.W.exmAny K (.ref (He.ga K "Full")) [.ref (He.ga K "Missing")] = some false), decide (PySem.W.exmAny K (.ref (He.ga K "Full")) [.ref (He.ga K "RunFault")] = some false), decide (PySem.W.exmAny K (.ref (He.ga K "Full")) [.ref (He.ga K "NothingBack")] = some false), oxB bVE K (He.ga K "BadLength"), xfB K (He.ga K "BadLength")]
def exl3 (K : PySem.W.Frag) : List Bool := [initB K (He.ga K "BadLength"), decide (PySem.W.findIn K (.ref (He.ga K "BadLength")) "word" = some none), decide (PySem.W.findIn K (.ref (He.ga K "BadLength")) "low" = some none), decide (PySem.W.findIn K (.ref (He.ga K "BadLength")) "high" = some none), decide (PySem.W.exmAny K (.ref (He.ga K "BadLength")) [.ref (He.ga K "TideError"), .ref (He.ga K "Missing")] = some true), decide (PySem.W.exmAny K (.ref (He.ga K "BadLength")) [.ref (He.ga K "TideError")] = some true), decide (PySem.W.exmAny K (.ref (He.ga K "BadLength")) [.ref (He.ga K "TideError")] = some true), decide (PySem.W.exmAny K (.ref (He.ga K "BadLength")) [.ref (He.ga K "Missing")] = some false), decide (PySem.W.exmAny K (.ref (He.ga K "BadLength")) [.ref (He.ga K "RunFault")] = some false), decide (PySem.W.exmAny K (.ref (He.ga K "BadLength")) [.ref (He.ga K "NothingBack")] = some false), oxB bVE K (He.ga K "BadLate"), xfB K (He.ga K "BadLate"), initB K (He.ga K "BadLate"), decide (PySem.W.findIn K (.ref (He.ga K "BadLate")) "word" = some none), decide (PySem.W.findIn K (.ref (He.ga K "BadLate")) "late" = some none), decide (PySem.W.exmAny K (.ref (He.ga K "BadLate")) [.ref (He.ga K "TideError"), .ref (He.ga K "Missing")] = some true), decide (PySem.W.exmAny K (.ref (He.ga K "BadLate")) [.ref (He.ga K "TideError")] = some true), decide (PySem.W.exmAny K (.ref (He.ga K "BadLate")) [.ref (He.ga K "TideError")] = some true), decide (PySem.W.exmAny K (.ref (He.ga K "BadLate")) [.ref (He.ga K "Missing")] = some false), decide (PySem.W.exmAny K (.ref (He.ga K "BadLate")) [.ref (He.ga K "RunFault")] = some false)]
def exl4 (K : PySem.W.Frag) : List Bool := [decide (PySem.W.exmAny K (.ref (He.ga K "BadLate")) [.ref (He.ga K "NothingBack")] = some false), oxB bVE K (He.ga K "BadTie"), xfB K (He.ga K "BadTie"), initB K (He.ga K "BadTie"), decide (PySem.W.findIn K (.ref (He.ga K "BadTie")) "word" = some none), decide (PySem.W.findIn K (.ref (He.ga K "BadTie")) "least" = some none), decide (PySem.W.findIn K (.ref (He.ga K "BadTie")) "most" = some none), decide (PySem.W.exmAny K (.ref (He.ga K "BadTie")) [.ref (He.ga K "TideError"), .ref (He.ga K "Missing")] = some true), decide (PySem.W.exmAny K (.ref (He.ga K "BadTie")) [.ref (He.ga K "TideError")] = some true), decide (PySem.W.exmAny K (.ref (He.ga K "BadTie")) [.ref (He.ga K "TideError")] = some true), decide (PySem.W.exmAny K (.ref (He.ga K "BadTie")) [.ref (He.ga K "Missing")] = some false), decide (PySem.W.exmAny K (.ref (He.ga K "BadTie")) [.ref (He.ga K "RunFault")] = some false), decide (PySem.W.exmAny K (.ref (He.ga K "BadTie")) [.ref (He.ga K "NothingBack")] = some false), oxB bVE K (He.ga K "Used"), xfB K (He.ga K "Used"), initB K (He.ga K "Used"), decide (PySem.W.findIn K (.ref (He.ga K "Used")) "word" = some none), decide (PySem.W.findIn K (.ref (He.ga K "Used")) "name" = some none), decide (PySem.W.exmAny K (.ref (He.ga K "Used")) [.ref (He.ga K "TideError"), .ref (He.ga K "Missing")] = some true), decide (PySem.W.exmAny K (.ref (He.ga K "Used")) [.ref (He.ga K "TideError")] = some true)]
def exl5 (K : PySem.W.Frag) : List Bool := [decide (PySem.W.exmAny K (.ref (He.ga K "Used")) [.ref (He.ga K "TideError")] = some true), decide (PySem.W.exmAny K (.ref (He.ga K "Used")) [.ref (He.ga K "Missing")] = some false), decide (PySem.W.exmAny K (.ref (He.ga K "Used")) [.ref (He.ga K "RunFault")] = some false), decide (PySem.W.exmAny K (.ref (He.ga K "Used")) [.ref (He.ga K "NothingBack")] = some false), oxB bVE K (He.ga K "BadText"), xfB K (He.ga K "BadText"), initB K (He.ga K "BadText"), decide (PySem.W.findIn K (.ref (He.ga K "BadText")) "word" = some none), decide (PySem.W.findIn K (.ref (He.ga K "BadText")) "row" = some none), decide (PySem.W.exmAny K (.ref (He.ga K "BadText")) [.ref (He.ga K "TideError"), .ref (He.ga K "Missing")] = some true), decide (PySem.W.exmAny K (.ref (He.ga K "BadText")) [.ref (He.ga K "TideError")] = some true), decide (PySem.W.exmAny K (.ref (He.ga K "BadText")) [.ref (He.ga K "TideError")] = some true), decide (PySem.W.exmAny K (.ref (He.ga K "BadText")) [.ref (He.ga K "Missing")] = some false), decide (PySem.W.exmAny K (.ref (He.ga K "BadText")) [.ref (He.ga K "RunFault")] = some false), decide (PySem.W.exmAny K (.ref (He.ga K "BadText")) [.ref (He.ga K "NothingBack")] = some false), oxB bVE K (He.ga K "BadDeed"), xfB K (He.ga K "BadDeed"), initB K (He.ga K "BadDeed"), decide (PySem.W.findIn K (.ref (He.ga K "BadDeed")) "word" = some none), decide (PySem.W.findIn K (.ref (He.ga K "BadDeed")) "kind" = some none)]
def exl6 (K : PySem.W.Frag) : List Bool := [decide (PySem.W.exmAny K (.ref (He.ga K "BadDeed")) [.ref (He.ga K "TideError"), .ref (He.ga K "Missing")] = some true), decide (PySem.W.exmAny K (.ref (He.ga K "BadDeed")) [.ref (He.ga K "TideError")] = some true), decide (PySem.W.exmAny K (.ref (He.ga K "BadDeed")) [.ref (He.ga K "TideError")] = some true), decide (PySem.W.exmAny K (.ref (He.ga K "BadDeed")) [.ref (He.ga K "Missing")] = some false), decide (PySem.W.exmAny K (.ref (He.ga K "BadDeed")) [.ref (He.ga K "RunFault")] = some false), decide (PySem.W.exmAny K (.ref (He.ga K "BadDeed")) [.ref (He.ga K "NothingBack")] = some false), clsDefB K (He.ga K "Missing") (He.ma K (He.ga K "Missing") "__init__") "__init__", oxB bLE K (He.ga K "NoMoment"), xfB K (He.ga K "NoMoment"), initB K (He.ga K "NoMoment"), decide (PySem.W.findIn K (.ref (He.ga K "NoMoment")) "word" = some none), decide (PySem.W.findIn K (.ref (He.ga K "NoMoment")) "name" = some none), decide (PySem.W.exmAny K (.ref (He.ga K "NoMoment")) [.ref (He.ga K "TideError"), .ref (He.ga K "Missing")] = some true), decide (PySem.W.exmAny K (.ref (He.ga K "NoMoment")) [.ref (He.ga K "TideError")] = some false), decide (PySem.W.exmAny K (.ref (He.ga K "NoMoment")) [.ref (He.ga K "TideError")] = some false), decide (PySem.W.exmAny K (.ref (He.ga K "NoMoment")) [.ref (He.ga K "Missing")] = some true), decide (PySem.W.exmAny K (.ref (He.ga K "NoMoment")) [.ref (He.ga K "RunFault")] = some false), decide (PySem.W.exmAny K (.ref (He.ga K "NoMoment")) [.ref (He.ga K "NothingBack")] = some false), oxB bLE K (He.ga K "NoPoint"), xfB K (He.ga K "NoPoint")]
def exl7 (K : PySem.W.Frag) : List Bool := [initB K (He.ga K "NoPoint"), decide (PySem.W.findIn K (.ref (He.ga K "NoPoint")) "word" = some none), decide (PySem.W.findIn K (.ref (He.ga K "NoPoint")) "name" = some none), decide (PySem.W.exmAny K (.ref (He.ga K "NoPoint")) [.ref (He.ga K "TideError"), .ref (He.ga K "Missing")] = some true), decide (PySem.W.exmAny K (.ref (He.ga K "NoPoint")) [.ref (He.ga K "TideError")] = some false), decide (PySem.W.exmAny K (.ref (He.ga K "NoPoint")) [.ref (He.ga K "TideError")] = some false), decide (PySem.W.exmAny K (.ref (He.ga K "NoPoint")) [.ref (He.ga K "Missing")] = some true), decide (PySem.W.exmAny K (.ref (He.ga K "NoPoint")) [.ref (He.ga K "RunFault")] = some false), decide (PySem.W.exmAny K (.ref (He.ga K "NoPoint")) [.ref (He.ga K "NothingBack")] = some false), oxB bLE K (He.ga K "NoTie"), xfB K (He.ga K "NoTie"), initB K (He.ga K "NoTie"), decide (PySem.W.findIn K (.ref (He.ga K "NoTie")) "word" = some none), decide (PySem.W.findIn K (.ref (He.ga K "NoTie")) "at" = some none), decide (PySem.W.exmAny K (.ref (He.ga K "NoTie")) [.ref (He.ga K "TideError"), .ref (He.ga K "Missing")] = some true), decide (PySem.W.exmAny K (.ref (He.ga K "NoTie")) [.ref (He.ga K "TideError")] = some false), decide (PySem.W.exmAny K (.ref (He.ga K "NoTie")) [.ref (He.ga K "TideError")] = some false), decide (PySem.W.exmAny K (.ref (He.ga K "NoTie")) [.ref (He.ga K "Missing")] = some true), decide (PySem.W.exmAny K (.ref (He.ga K "NoTie")) [.ref (He.ga K "RunFault")] = some false), decide (PySem.W.exmAny K (.ref (He.ga K "NoTie")) [.ref (He.ga K "NothingBack")] = some false)]
def exl8 (K : PySem.W.Frag) : List Bool := [oxB bLE K (He.ga K "NoDeed"), xfB K (He.ga K "NoDeed"), initB K (He.ga K "NoDeed"), decide (PySem.W.findIn K (.ref (He.ga K "NoDeed")) "word" = some none), decide (PySem.W.findIn K (.ref (He.ga K "NoDeed")) "at" = some none), decide (PySem.W.exmAny K (.ref (He.ga K "NoDeed")) [.ref (He.ga K "TideError"), .ref (He.ga K "Missing")] = some true), decide (PySem.W.exmAny K (.ref (He.ga K "NoDeed")) [.ref (He.ga K "TideError")] = some false), decide (PySem.W.exmAny K (.ref (He.ga K "NoDeed")) [.ref (He.ga K "TideError")] = some false), decide (PySem.W.exmAny K (.ref (He.ga K "NoDeed")) [.ref (He.ga K "Missing")] = some true), decide (PySem.W.exmAny K (.ref (He.ga K "NoDeed")) [.ref (He.ga K "RunFault")] = some false), decide (PySem.W.exmAny K (.ref (He.ga K "NoDeed")) [.ref (He.ga K "NothingBack")] = some false), oxB bRE K (He.ga K "RunFault"), xfB K (He.ga K "RunFault"), initB K (He.ga K "RunFault"), decide (PySem.W.findIn K (.ref (He.ga K "RunFault")) "word" = some none), decide (PySem.W.exmAny K (.ref (He.ga K "RunFault")) [.ref (He.ga K "TideError"), .ref (He.ga K "Missing")] = some false), decide (PySem.W.exmAny K (.ref (He.ga K "RunFault")) [.ref (He.ga K "TideError")] = some false), decide (PySem.W.exmAny K (.ref (He.ga K "RunFault")) [.ref (He.ga K "TideError")] = some false), decide (PySem.W.exmAny K (.ref (He.ga K "RunFault")) [.ref (He.ga K "Missing")] = some false), decide (PySem.W.exmAny K (.ref (He.ga K "RunFault")) [.ref (He.ga K "RunFault")] = some true)]
def exl9 (K : PySem.W.Frag) : List Bool := [decide (PySem.W.exmAny K (.ref (He.ga K "RunFault")) [.ref (He.ga K "NothingBack")] = some false), oxB bIE K (He.ga K "NothingBack"), xfB K (He.ga K "NothingBack"), initB K (He.ga K "NothingBack"), decide (PySem.W.findIn K (.ref (He.ga K "NothingBack")) "word" = some none), decide (PySem.W.exmAny K (.ref (He.ga K "NothingBack")) [.ref (He.ga K "TideError"), .ref (He.ga K "Missing")] = some false), decide (PySem.W.exmAny K (.ref (He.ga K "NothingBack")) [.ref (He.ga K "TideError")] = some false), decide (PySem.W.exmAny K (.ref (He.ga K "NothingBack")) [.ref (He.ga K "TideError")] = some false), decide (PySem.W.exmAny K (.ref (He.ga K "NothingBack")) [.ref (He.ga K "Missing")] = some false), decide (PySem.W.exmAny K (.ref (He.ga K "NothingBack")) [.ref (He.ga K "RunFault")] = some false), decide (PySem.W.exmAny K (.ref (He.ga K "NothingBack")) [.ref (He.ga K "NothingBack")] = some true), decide (¬ (He.cT K ("law", none)).2 = (He.cT K ("_law_log_turn", none)).2), decide (PySem.W.findIn K (.ref (He.ga K "Web")) "__class__" = some (some (.builtin "object.__class__"))), decide (PySem.W.specialIn K (.builtin "object.__class__") "__get__" = some (some (.builtin "getset_descriptor.__get__"))), decide (PySem.W.takesIn K (.builtin "object.__class__") = some true), decide (PySem.W.mroIn K (He.ga K "Web") (.type "object") = some true), bmB K (He.ma K (He.ga K "Web") "with_by") "with_by", bmB K (He.ma K (He.ga K "Web") "with_moment") "with_moment", bmB K (He.ma K (He.ga K "Web") "without") "without", bmB K (He.ma K (He.ga K "Web") "without_tie") "without_tie"]
def exl10 (K : PySem.W.Frag) : List Bool := [decide (PySem.W.findIn K (.ref (He.ga K "Web")) "__ne__" = some (some (.builtin "object.__ne__"))), decide (PySem.W.subIn K (.ref (He.ga K "Web")) (.type "object") = some true), decide (PySem.W.subIn K (.type "dict") (.ref (He.ga K "Web")) = some false), decide (PySem.W.kitOne K (.type "dict") (.ref (He.ga K "Web")) = some false), decide (PySem.W.subIn K (.type "list") (.ref (He.ga K "Web")) = some false), decide (PySem.W.kitOne K (.type "list") (.ref (He.ga K "Web")) = some false), decide (PySem.W.subIn K (.type "str") (.ref (He.ga K "Web")) = some false), decide (PySem.W.kitOne K (.type "str") (.ref (He.ga K "Web")) = some false)]
def exl (K : PySem.W.Frag) : List Bool := exl0 K ++ exl1 K ++ exl2 K ++ exl3 K ++ exl4 K ++ exl5 K ++ exl6 K ++ exl7 K ++ exl8 K ++ exl9 K ++ exl10 K
def ex (K : PySem.W.Frag) : Bool := (exl K).all id
theorem exAt {K : PySem.W.Frag} (h : ex K = true) {b : Bool} (e : b ∈ exl K) : b = true := List.all_eq_true.mp h b e
theorem exAt0 {K : PySem.W.Frag} (h : ex K = true) (i : Nat) {b : Bool} (e : (exl0 K)[i]? = some b) : b = true := exAt h (List.mem_append_left _ (List.mem_append_left _ (List.mem_append_left _ (List.mem_append_left _ (List.mem_append_left _ (List.mem_append_left _ (List.mem_append_left _ (List.mem_append_left _ (List.mem_append_left _ (List.mem_append_left _ (List.mem_of_getElem? e)))))))))))
theorem exAt1 {K : PySem.W.Frag} (h : ex K = true) (i : Nat) {b : Bool} (e : (exl1 K)[i]? = some b) : b = true := exAt h (List.mem_append_left _ (List.mem_append_left _ (List.mem_append_left _ (List.mem_append_left _ (List.mem_append_left _ (List.mem_append_left _ (List.mem_append_left _ (List.mem_append_left _ (List.mem_append_left _ (List.mem_append_right _ (List.mem_of_getElem? e)))))))))))
theorem exAt2 {K : PySem.W.Frag} (h : ex K = true) (i : Nat) {b : Bool} (e : (exl2 K)[i]? = some b) : b = true := exAt h (List.mem_append_left _ (List.mem_append_left _ (List.mem_append_left _ (List.mem_append_left _ (List.mem_append_left _ (List.mem_append_left _ (List.mem_append_left _ (List.mem_append_left _ (List.mem_append_right _ (List.mem_of_getElem? e))))))))))
theorem exAt3 {K : PySem.W.Frag} (h : ex K = true) (i : Nat) {b : Bool} (e : (exl3 K)[i]? = some b) : b = true := exAt h (List.mem_append_left _ (List.mem_append_left _ (List.mem_append_left _ (List.mem_append_left _ (List.mem_append_left _ (List.mem_append_left _ (List.mem_append_left _ (List.mem_append_right _ (List.mem_of_getElem? e)))))))))
theorem exAt4 {K : PySem.W.Frag} (h : ex K = true) (i : Nat) {b : Bool} (e : (exl4 K)[i]? = some b) : b = true := exAt h (List.mem_append_left _ (List.mem_append_left _ (List.mem_append_left _ (List.mem_append_left _ (List.mem_append_left _ (List.mem_append_left _ (List.mem_append_right _ (List.mem_of_getElem? e))))))))
theorem exAt5 {K : PySem.W.Frag} (h : ex K = true) (i : Nat) {b : Bool} (e : (exl5 K)[i]? = some b) : b = true := exAt h (List.mem_append_left _ (List.mem_append_left _ (List.mem_append_left _ (List.mem_append_left _ (List.mem_append_left _ (List.mem_append_right _ (List.mem_of_getElem? e)))))))
theorem exAt6 {K : PySem.W.Frag} (h : ex K = true) (i : Nat) {b : Bool} (e : (exl6 K)[i]? = some b) : b = true := exAt h (List.mem_append_left _ (List.mem_append_left _ (List.mem_append_left _ (List.mem_append_left _ (List.mem_append_right _ (List.mem_of_getElem? e))))))
theorem exAt7 {K : PySem.W.Frag} (h : ex K = true) (i : Nat) {b : Bool} (e : (exl7 K)[i]? = some b) : b = true := exAt h (List.mem_append_left _ (List.mem_append_left _ (List.mem_append_left _ (List.mem_append_right _ (List.mem_of_getElem? e)))))
theorem exAt8 {K : PySem.W.Frag} (h : ex K = true) (i : Nat) {b : Bool} (e : (exl8 K)[i]? = some b) : b = true := exAt h (List.mem_append_left _ (List.mem_append_left _ (List.mem_append_right _ (List.mem_of_getElem? e))))
theorem exAt9 {K : PySem.W.Frag} (h : ex K = true) (i : Nat) {b : Bool} (e : (exl9 K)[i]? = some b) : b = true := exAt h (List.mem_append_left _ (List.mem_append_right _ (List.mem_of_getElem? e)))
theorem exAt10 {K : PySem.W.Frag} (h : ex K = true) (i : Nat) {b : Bool} (e : (exl10 K)[i]? = some b) : b = true := exAt h (List.mem_append_right _ (List.mem_of_getElem? e))
/-- what the top has written -/
structure Tp (K : PySem.W.Frag) (mg : Str → Option Value) : Prop where
  c : He.SaysD fa fn K
  m : ex K = true
  glo : ∀ (i : Nat) (x : Str), fa[i]? = some (.glo x) → mg x = some (.ref (He.ga K x))
  free : ∀ (i : Nat) (x : Str), fa[i]? = some (.free x) → mg x = none
  int : ∀ (i : Nat) (x : Str) (n : Int), fa[i]? = some (.int x n) → ∃ u, mg x = some u ∧ RelV (.int n) u
  str : ∀ (i : Nat) (x z : Str), fa[i]? = some (.str x z) → ∃ u, mg x = some u ∧ RelV (.str z) u
theorem tp_mk {K : PySem.W.Frag} {h : Heap} {mg : Str → Option Value} (X : K.In h) (G : h.Ns mainGlobals mg) (c : He.SaysD fa fn K) (m : ex K = true) : Tp K mg :=
  ⟨c, m, fun i x e => He.glo_ok X G (c.fact i e), fun i x e => He.free_ok X G (c.fact i e), fun i x n e => let ⟨t, h⟩ := He.int_ok X G (c.fact i e); ⟨_, h, t, rfl⟩, fun i x z e => let ⟨t, h⟩ := He.str_ok X G (c.fact i e); ⟨_, h, t, rfl⟩⟩
section
variable {K : PySem.W.Frag} {mg : Str → Option Value}
theorem g_is_number (T : Tp K mg) : mg "is_number" = some (.ref (He.ga K "is_number")) := T.glo 0 _ rfl
theorem g_is_whole (T : Tp K mg) : mg "is_whole" = some (.ref (He.ga K "is_whole")) := T.glo 1 _ rfl
theorem g_is_one_of (T : Tp K mg) : mg "is_one_of" = some (.ref (He.ga K "is_one_of")) := T.glo 2 _ rfl
theorem g_is_name (T : Tp K mg) : mg "is_name" = some (.ref (He.ga K "is_name")) := T.glo 3 _ rfl
theorem g_is_figures (T : Tp K mg) : mg "is_figures" = some (.ref (He.ga K "is_figures")) := T.glo 4 _ rfl
theorem g_read_number (T : Tp K mg) : mg "read_number" = some (.ref (He.ga K "read_number")) := T.glo 5 _ rfl
theorem g_read_bound (T : Tp K mg) : mg "read_bound" = some (.ref (He.ga K "read_bound")) := T.glo 6 _ rfl
theorem g_read_name (T : Tp K mg) : mg "read_name" = some (.ref (He.ga K "read_name")) := T.glo 7 _ rfl
theorem g_written (T : Tp K mg) : mg "written" = some (.ref (He.ga K "written")) := T.glo 8 _ rfl
theorem g_read_words (T : Tp K mg) : mg "read_words" = some (.ref (He.ga K "read_words")) := T.glo 9 _ rfl
theorem g_read_word (T : Tp K mg) : mg "read_word" = some (.ref (He.ga K "read_word")) := T.glo 10 _ rfl
theorem g_need_deed (T : Tp K mg) : mg "need_deed" = some (.ref (He.ga K "need_deed")) := T.glo 11 _ rfl
theorem g_with_deed (T : Tp K mg) : mg "with_deed" = some (.ref (He.ga K "with_deed")) := T.glo 12 _ rfl
theorem g_write_deed (T : Tp K mg) : mg "write_deed" = some (.ref (He.ga K "write_deed")) := T.glo 13 _ rfl
theorem g_read_deed (T : Tp K mg) : mg "read_deed" = some (.ref (He.ga K "read_deed")) := T.glo 14 _ rfl
theorem g_write_line (T : Tp K mg) : mg "write_line" = some (.ref (He.ga K "write_line")) := T.glo 15 _ rfl
theorem g_do_line (T : Tp K mg) : mg "do_line" = some (.ref (He.ga K "do_line")) := T.glo 16 _ rfl
theorem g_woven (T : Tp K mg) : mg "woven" = some (.ref (He.ga K "woven")) := T.glo 17 _ rfl
theorem g_is_begin (T : Tp K mg) : mg "is_begin" = some (.ref (He.ga K "is_begin")) := T.glo 18 _ rfl
theorem g_are_lengths (T : Tp K mg) : mg "are_lengths" = some (.ref (He.ga K "are_lengths")) := T.glo 19 _ rfl
theorem g_is_lateness (T : Tp K mg) : mg "is_lateness" = some (.ref (He.ga K "is_lateness")) := T.glo 20 _ rfl
theorem g_is_used (T : Tp K mg) : mg "is_used" = some (.ref (He.ga K "is_used")) := T.glo 21 _ rfl
theorem g_are_bounds (T : Tp K mg) : mg "are_bounds" = some (.ref (He.ga K "are_bounds")) := T.glo 22 _ rfl
theorem g_need_free_name (T : Tp K mg) : mg "need_free_name" = some (.ref (He.ga K "need_free_name")) := T.glo 23 _ rfl
theorem g_need_point (T : Tp K mg) : mg "need_point" = some (.ref (He.ga K "need_point")) := T.glo 24 _ rfl
theorem g_do_whole (T : Tp K mg) : mg "do_whole" = some (.ref (He.ga K "do_whole")) := T.glo 25 _ rfl
theorem g_as_told (T : Tp K mg) : mg "as_told" = some (.ref (He.ga K "as_told")) := T.glo 26 _ rfl
theorem g_page (T : Tp K mg) : mg "page" = some (.ref (He.ga K "page")) := T.glo 27 _ rfl
theorem g_read_page (T : Tp K mg) : mg "read_page" = some (.ref (He.ga K "read_page")) := T.glo 28 _ rfl
theorem g_begun_log (T : Tp K mg) : mg "begun_log" = some (.ref (He.ga K "begun_log")) := T.glo 29 _ rfl
theorem g__law_flow (T : Tp K mg) : mg "_law_flow" = some (.ref (He.ga K "_law_flow")) := T.glo 30 _ rfl
theorem g__law_draw (T : Tp K mg) : mg "_law_draw" = some (.ref (He.ga K "_law_draw")) := T.glo 31 _ rfl
theorem g__law_pick (T : Tp K mg) : mg "_law_pick" = some (.ref (He.ga K "_law_pick")) := T.glo 32 _ rfl
theorem g__law_same (T : Tp K mg) : mg "_law_same" = some (.ref (He.ga K "_law_same")) := T.glo 33 _ rfl
theorem g__law_why (T : Tp K mg) : mg "_law_why" = some (.ref (He.ga K "_law_why")) := T.glo 34 _ rfl
theorem g__law_model (T : Tp K mg) : mg "_law_model" = some (.ref (He.ga K "_law_model")) := T.glo 35 _ rfl
theorem g__law_points (T : Tp K mg) : mg "_law_points" = some (.ref (He.ga K "_law_points")) := T.glo 36 _ rfl
theorem g__law_bond (T : Tp K mg) : mg "_law_bond" = some (.ref (He.ga K "_law_bond")) := T.glo 37 _ rfl
theorem g__law_stands (T : Tp K mg) : mg "_law_stands" = some (.ref (He.ga K "_law_stands")) := T.glo 38 _ rfl
theorem g__law_copy (T : Tp K mg) : mg "_law_copy" = some (.ref (He.ga K "_law_copy")) := T.glo 39 _ rfl
theorem g__law_whole (T : Tp K mg) : mg "_law_whole" = some (.ref (He.ga K "_law_whole")) := T.glo 40 _ rfl
theorem g__law_tie_due (T : Tp K mg) : mg "_law_tie_due" = some (.ref (He.ga K "_law_tie_due")) := T.glo 41 _ rfl
theorem g__law_deed_line (T : Tp K mg) : mg "_law_deed_line" = some (.ref (He.ga K "_law_deed_line")) := T.glo 42 _ rfl
theorem g__law_name_good (T : Tp K mg) : mg "_law_name_good" = some (.ref (He.ga K "_law_name_good")) := T.glo 43 _ rfl
theorem g__law_new_due (T : Tp K mg) : mg "_law_new_due" = some (.ref (He.ga K "_law_new_due")) := T.glo 44 _ rfl
theorem g__law_span_word (T : Tp K mg) : mg "_law_span_word" = some (.ref (He.ga K "_law_span_word")) := T.glo 45 _ rfl
theorem g__law_without_word (T : Tp K mg) : mg "_law_without_word" = some (.ref (He.ga K "_law_without_word")) := T.glo 46 _ rfl
theorem g__law_deed_word (T : Tp K mg) : mg "_law_deed_word" = some (.ref (He.ga K "_law_deed_word")) := T.glo 47 _ rfl
theorem g__law_deed_done (T : Tp K mg) : mg "_law_deed_done" = some (.ref (He.ga K "_law_deed_done")) := T.glo 48 _ rfl
theorem g__law_some_deed (T : Tp K mg) : mg "_law_some_deed" = some (.ref (He.ga K "_law_some_deed")) := T.glo 49 _ rfl
theorem g__law_log_stands (T : Tp K mg) : mg "_law_log_stands" = some (.ref (He.ga K "_law_log_stands")) := T.glo 50 _ rfl
theorem g__law_dealt (T : Tp K mg) : mg "_law_dealt" = some (.ref (He.ga K "_law_dealt")) := T.glo 51 _ rfl
theorem g__law_some_entry (T : Tp K mg) : mg "_law_some_entry" = some (.ref (He.ga K "_law_some_entry")) := T.glo 52 _ rfl
theorem g__law_entry_word (T : Tp K mg) : mg "_law_entry_word" = some (.ref (He.ga K "_law_entry_word")) := T.glo 53 _ rfl
theorem g__law_log_turn (T : Tp K mg) : mg "_law_log_turn" = some (.ref (He.ga K "_law_log_turn")) := T.glo 54 _ rfl
theorem g__law_entry_line (T : Tp K mg) : mg "_law_entry_line" = some (.ref (He.ga K "_law_entry_line")) := T.glo 55 _ rfl
theorem g__law_page (T : Tp K mg) : mg "_law_page" = some (.ref (He.ga K "_law_page")) := T.glo 56 _ rfl
theorem g__law_told_right (T : Tp K mg) : mg "_law_told_right" = some (.ref (He.ga K "_law_told_right")) := T.glo 57 _ rfl
theorem g_law (T : Tp K mg) : mg "law" = some (.ref (He.ga K "law")) := T.glo 58 _ rfl
theorem z_ValueError (T : Tp K mg) : mg "ValueError" = none := T.free 59 _ rfl
theorem z_LookupError (T : Tp K mg) : mg "LookupError" = none := T.free 60 _ rfl
theorem z_RuntimeError (T : Tp K mg) : mg "RuntimeError" = none := T.free 61 _ rfl
theorem z_IndexError (T : Tp K mg) : mg "IndexError" = none := T.free 62 _ rfl
theorem z_isinstance (T : Tp K mg) : mg "isinstance" = none := T.free 63 _ rfl
theorem z_int (T : Tp K mg) : mg "int" = none := T.free 64 _ rfl
theorem z_bool (T : Tp K mg) : mg "bool" = none := T.free 65 _ rfl
theorem z_str (T : Tp K mg) : mg "str" = none := T.free 66 _ rfl
theorem z_all (T : Tp K mg) : mg "all" = none := T.free 67 _ rfl
theorem z_len (T : Tp K mg) : mg "len" = none := T.free 68 _ rfl
theorem z_zip (T : Tp K mg) : mg "zip" = none := T.free 69 _ rfl
theorem z_tuple (T : Tp K mg) : mg "tuple" = none := T.free 70 _ rfl
theorem z_list (T : Tp K mg) : mg "list" = none := T.free 71 _ rfl
theorem z_any (T : Tp K mg) : mg "any" = none := T.free 72 _ rfl
theorem z_enumerate (T : Tp K mg) : mg "enumerate" = none := T.free 73 _ rfl
theorem z_abs (T : Tp K mg) : mg "abs" = none := T.free 74 _ rfl
theorem z_dict (T : Tp K mg) : mg "dict" = none := T.free 75 _ rfl
theorem z_range (T : Tp K mg) : mg "range" = none := T.free 76 _ rfl
theorem z_repr (T : Tp K mg) : mg "repr" = none := T.free 77 _ rfl
theorem c_LETTERS (T : Tp K mg) : ∃ u, mg "LETTERS" = some u ∧ RelV (.str "abcdefghijklmnopqrstuvwxyz") u := T.str 78 _ _ rfl
theorem c_LONGEST_NAME (T : Tp K mg) : ∃ u, mg "LONGEST_NAME" = some u ∧ RelV (.int 8) u := T.int 79 _ _ rfl
theorem c_FIGURES (T : Tp K mg) : ∃ u, mg "FIGURES" = some u ∧ RelV (.str "0123456789") u := T.str 80 _ _ rfl
theorem c_MOST_FIGURES (T : Tp K mg) : ∃ u, mg "MOST_FIGURES" = some u ∧ RelV (.int 9) u := T.int 81 _ _ rfl
theorem c_NONE (T : Tp K mg) : ∃ u, mg "NONE" = some u ∧ RelV (.str "-") u := T.str 82 _ _ rfl
theorem c_BY (T : Tp K mg) : ∃ u, mg "BY" = some u ∧ RelV (.int 100) u := T.int 83 _ _ rfl
theorem c_START (T : Tp K mg) : ∃ u, mg "START" = some u ∧ RelV (.str "start") u := T.str 84 _ _ rfl
theorem c_MOST_BY (T : Tp K mg) : ∃ u, mg "MOST_BY" = some u ∧ RelV (.int 1000) u := T.int 85 _ _ rfl
theorem c_MOST_MOMENTS (T : Tp K mg) : ∃ u, mg "MOST_MOMENTS" = some u ∧ RelV (.int 10) u := T.int 86 _ _ rfl
theorem c_MOST_SPANS (T : Tp K mg) : ∃ u, mg "MOST_SPANS" = some u ∧ RelV (.int 4) u := T.int 87 _ _ rfl
theorem c_MOST_TIES (T : Tp K mg) : ∃ u, mg "MOST_TIES" = some u ∧ RelV (.int 40) u := T.int 88 _ _ rfl
theorem c_MOST_LENGTH (T : Tp K mg) : ∃ u, mg "MOST_LENGTH" = some u ∧ RelV (.int 1000) u := T.int 89 _ _ rfl
theorem c_MOST_LATE (T : Tp K mg) : ∃ u, mg "MOST_LATE" = some u ∧ RelV (.int 1000) u := T.int 90 _ _ rfl
theorem c_MOST_BOUND (T : Tp K mg) : ∃ u, mg "MOST_BOUND" = some u ∧ RelV (.int 1000) u := T.int 91 _ _ rfl
theorem g_Web (T : Tp K mg) : mg "Web" = some (.ref (He.ga K "Web")) := T.glo 92 _ rfl
theorem cl_Web (T : Tp K mg) : Cls K (He.ga K "Web") := He.cls_ok (T.c.fact 93 (f := .cls "Web") rfl)
theorem mk_Web (T : Tp K mg) : Mk K (He.ga K "Web") (He.ma K (He.ga K "Web") "__init__") := He.mkr_ok (T.c.fact 94 (f := .mkr "Web") rfl)
theorem na_by (T : Tp K mg) : NoAttr K (He.ga K "Web") "by" := He.noat_ok (T.c.fact 95 (f := .noat "Web" "by") rfl)
theorem na_moment_rows (T : Tp K mg) : NoAttr K (He.ga K "Web") "moment_rows" := He.noat_ok (T.c.fact 96 (f := .noat "Web" "moment_rows") rfl)
theorem na_span_rows (T : Tp K mg) : NoAttr K (He.ga K "Web") "span_rows" := He.noat_ok (T.c.fact 97 (f := .noat "Web" "span_rows") rfl)
theorem na_tie_rows (T : Tp K mg) : NoAttr K (He.ga K "Web") "tie_rows" := He.noat_ok (T.c.fact 98 (f := .noat "Web" "tie_rows") rfl)
theorem na_bool (T : Tp K mg) : NoAttr K (He.ga K "Web") "__bool__" := He.noat_ok (T.c.fact 99 (f := .noat "Web" "__bool__") rfl)
theorem na_boolL (T : Tp K mg) : NoAttr K (He.ga K "Log") "__bool__" := He.noat_ok (T.c.fact 100 (f := .noat "Log" "__bool__") rfl)
theorem me_Web_UinitU (T : Tp K mg) : Meth K (He.ga K "Web") "__init__" (He.ma K (He.ga K "Web") "__init__") := He.meth_ok (T.c.fact 101 (f := .meth "Web" "__init__") rfl)
theorem me_Web_with_by (T : Tp K mg) : Meth K (He.ga K "Web") "with_by" (He.ma K (He.ga K "Web") "with_by") := He.meth_ok (T.c.fact 102 (f := .meth "Web" "with_by") rfl)
theorem me_Web_with_moment (T : Tp K mg) : Meth K (He.ga K "Web") "with_moment" (He.ma K (He.ga K "Web") "with_moment") := He.meth_ok (T.c.fact 103 (f := .meth "Web" "with_moment") rfl)
theorem me_Web_with_span (T : Tp K mg) : Meth K (He.ga K "Web") "with_span" (He.ma K (He.ga K "Web") "with_span") := He.meth_ok (T.c.fact 104 (f := .meth "Web" "with_span") rfl)
theorem me_Web_with_tie (T : Tp K mg) : Meth K (He.ga K "Web") "with_tie" (He.ma K (He.ga K "Web") "with_tie") := He.meth_ok (T.c.fact 105 (f := .meth "Web" "with_tie") rfl)
theorem me_Web_without (T : Tp K mg) : Meth K (He.ga K "Web") "without" (He.ma K (He.ga K "Web") "without") := He.meth_ok (T.c.fact 106 (f := .meth "Web" "without") rfl)
theorem me_Web_without_tie (T : Tp K mg) : Meth K (He.ga K "Web") "without_tie" (He.ma K (He.ga K "Web") "without_tie") := He.meth_ok (T.c.fact 107 (f := .meth "Web" "without_tie") rfl)
theorem me_Web_moments (T : Tp K mg) : Meth K (He.ga K "Web") "moments" (He.ma K (He.ga K "Web") "moments") := He.meth_ok (T.c.fact 108 (f := .meth "Web" "moments") rfl)
theorem me_Web_spans (T : Tp K mg) : Meth K (He.ga K "Web") "spans" (He.ma K (He.ga K "Web") "spans") := He.meth_ok (T.c.fact 109 (f := .meth "Web" "spans") rfl)
theorem me_Web_ties (T : Tp K mg) : Meth K (He.ga K "Web") "ties" (He.ma K (He.ga K "Web") "ties") := He.meth_ok (T.c.fact 110 (f := .meth "Web" "ties") rfl)
theorem me_Web_points (T : Tp K mg) : Meth K (He.ga K "Web") "points" (He.ma K (He.ga K "Web") "points") := He.meth_ok (T.c.fact 111 (f := .meth "Web" "points") rfl)
theorem me_Web_UeqU (T : Tp K mg) : Meth K (He.ga K "Web") "__eq__" (He.ma K (He.ga K "Web") "__eq__") := He.meth_ok (T.c.fact 112 (f := .meth "Web" "__eq__") rfl)
theorem me_Web_UlenU (T : Tp K mg) : Meth K (He.ga K "Web") "__len__" (He.ma K (He.ga K "Web") "__len__") := He.meth_ok (T.c.fact 113 (f := .meth "Web" "__len__") rfl)
theorem me_Web_UreprU (T : Tp K mg) : Meth K (He.ga K "Web") "__repr__" (He.ma K (He.ga K "Web") "__repr__") := He.meth_ok (T.c.fact 114 (f := .meth "Web" "__repr__") rfl)
theorem g_Log (T : Tp K mg) : mg "Log" = some (.ref (He.ga K "Log")) := T.glo 115 _ rfl
theorem cl_Log (T : Tp K mg) : Cls K (He.ga K "Log") := He.cls_ok (T.c.fact 116 (f := .cls "Log") rfl)
theorem mk_Log (T : Tp K mg) : Mk K (He.ga K "Log") (He.ma K (He.ga K "Log") "__init__") := He.mkr_ok (T.c.fact 117 (f := .mkr "Log") rfl)
theorem na_Log_webs (T : Tp K mg) : NoAttr K (He.ga K "Log") "webs" := He.noat_ok (T.c.fact 118 (f := .noat "Log" "webs") rfl)
theorem na_Log_done (T : Tp K mg) : NoAttr K (He.ga K "Log") "done" := He.noat_ok (T.c.fact 119 (f := .noat "Log" "done") rfl)
theorem na_Log_undone (T : Tp K mg) : NoAttr K (He.ga K "Log") "undone" := He.noat_ok (T.c.fact 120 (f := .noat "Log" "undone") rfl)
theorem me_Log_UinitU (T : Tp K mg) : Meth K (He.ga K "Log") "__init__" (He.ma K (He.ga K "Log") "__init__") := He.meth_ok (T.c.fact 121 (f := .meth "Log" "__init__") rfl)
theorem me_Log_do (T : Tp K mg) : Meth K (He.ga K "Log") "do" (He.ma K (He.ga K "Log") "do") := He.meth_ok (T.c.fact 122 (f := .meth "Log" "do") rfl)
theorem me_Log_deal (T : Tp K mg) : Meth K (He.ga K "Log") "deal" (He.ma K (He.ga K "Log") "deal") := He.meth_ok (T.c.fact 123 (f := .meth "Log" "deal") rfl)
theorem me_Log_now (T : Tp K mg) : Meth K (He.ga K "Log") "now" (He.ma K (He.ga K "Log") "now") := He.meth_ok (T.c.fact 124 (f := .meth "Log" "now") rfl)
theorem me_Log_deeds (T : Tp K mg) : Meth K (He.ga K "Log") "deeds" (He.ma K (He.ga K "Log") "deeds") := He.meth_ok (T.c.fact 125 (f := .meth "Log" "deeds") rfl)
theorem me_Log_undo (T : Tp K mg) : Meth K (He.ga K "Log") "undo" (He.ma K (He.ga K "Log") "undo") := He.meth_ok (T.c.fact 126 (f := .meth "Log" "undo") rfl)
theorem me_Log_redo (T : Tp K mg) : Meth K (He.ga K "Log") "redo" (He.ma K (He.ga K "Log") "redo") := He.meth_ok (T.c.fact 127 (f := .meth "Log" "redo") rfl)
theorem me_Log_as_of (T : Tp K mg) : Meth K (He.ga K "Log") "as_of" (He.ma K (He.ga K "Log") "as_of") := He.meth_ok (T.c.fact 128 (f := .meth "Log" "as_of") rfl)
theorem me_Log_UlenU (T : Tp K mg) : Meth K (He.ga K "Log") "__len__" (He.ma K (He.ga K "Log") "__len__") := He.meth_ok (T.c.fact 129 (f := .meth "Log" "__len__") rfl)
theorem g_FORMS (T : Tp K mg) : mg "FORMS" = some (.ref (He.ga K "FORMS")) := T.glo 130 _ rfl
theorem g_READERS (T : Tp K mg) : mg "READERS" = some (.ref (He.ga K "READERS")) := T.glo 131 _ rfl
theorem g_TideError (T : Tp K mg) : mg "TideError" = some (.ref (He.ga K "TideError")) := T.glo 132 _ rfl
theorem g_Missing (T : Tp K mg) : mg "Missing" = some (.ref (He.ga K "Missing")) := T.glo 133 _ rfl
theorem g_RunFault (T : Tp K mg) : mg "RunFault" = some (.ref (He.ga K "RunFault")) := T.glo 134 _ rfl
theorem g_NothingBack (T : Tp K mg) : mg "NothingBack" = some (.ref (He.ga K "NothingBack")) := T.glo 135 _ rfl
theorem g_BadBy (T : Tp K mg) : mg "BadBy" = some (.ref (He.ga K "BadBy")) := T.glo 136 _ rfl
theorem g_BadName (T : Tp K mg) : mg "BadName" = some (.ref (He.ga K "BadName")) := T.glo 137 _ rfl
theorem g_Taken (T : Tp K mg) : mg "Taken" = some (.ref (He.ga K "Taken")) := T.glo 138 _ rfl
theorem g_Full (T : Tp K mg) : mg "Full" = some (.ref (He.ga K "Full")) := T.glo 139 _ rfl
theorem g_BadLength (T : Tp K mg) : mg "BadLength" = some (.ref (He.ga K "BadLength")) := T.glo 140 _ rfl
theorem g_BadLate (T : Tp K mg) : mg "BadLate" = some (.ref (He.ga K "BadLate")) := T.glo 141 _ rfl
theorem g_BadTie (T : Tp K mg) : mg "BadTie" = some (.ref (He.ga K "BadTie")) := T.glo 142 _ rfl
theorem g_Used (T : Tp K mg) : mg "Used" = some (.ref (He.ga K "Used")) := T.glo 143 _ rfl
theorem g_BadText (T : Tp K mg) : mg "BadText" = some (.ref (He.ga K "BadText")) := T.glo 144 _ rfl
theorem g_BadDeed (T : Tp K mg) : mg "BadDeed" = some (.ref (He.ga K "BadDeed")) := T.glo 145 _ rfl
theorem g_NoMoment (T : Tp K mg) : mg "NoMoment" = some (.ref (He.ga K "NoMoment")) := T.glo 146 _ rfl
theorem g_NoPoint (T : Tp K mg) : mg "NoPoint" = some (.ref (He.ga K "NoPoint")) := T.glo 147 _ rfl
theorem g_NoTie (T : Tp K mg) : mg "NoTie" = some (.ref (He.ga K "NoTie")) := T.glo 148 _ rfl
theorem g_NoDeed (T : Tp K mg) : mg "NoDeed" = some (.ref (He.ga K "NoDeed")) := T.glo 149 _ rfl
theorem frx_FORMS_by (T : Tp K mg) : frxB K (He.ga K "FORMS") "by" ["number"] = true := exAt0 T.m 0 rfl
theorem frx_FORMS_moment (T : Tp K mg) : frxB K (He.ga K "FORMS") "moment" ["name"] = true := exAt0 T.m 1 rfl
theorem frx_FORMS_span (T : Tp K mg) : frxB K (He.ga K "FORMS") "span" ["name", "name", "number", "number", "bound"] = true := exAt0 T.m 2 rfl
theorem frx_FORMS_tie (T : Tp K mg) : frxB K (He.ga K "FORMS") "tie" ["name", "name", "bound", "bound"] = true := exAt0 T.m 3 rfl
theorem frx_FORMS_without (T : Tp K mg) : frxB K (He.ga K "FORMS") "without" ["name"] = true := exAt0 T.m 4 rfl
theorem frx_FORMS_untie (T : Tp K mg) : frxB K (He.ga K "FORMS") "untie" ["number"] = true := exAt0 T.m 5 rfl
theorem nt_READERS_number (T : Tp K mg) : PySem.W.nsIn K (He.ga K "READERS") "number" = some (some (.ref (He.ga K "read_number"))) := of_decide_eq_true (exAt0 T.m 6 rfl)
theorem nt_READERS_bound (T : Tp K mg) : PySem.W.nsIn K (He.ga K "READERS") "bound" = some (some (.ref (He.ga K "read_bound"))) := of_decide_eq_true (exAt0 T.m 7 rfl)
theorem nt_READERS_name (T : Tp K mg) : PySem.W.nsIn K (He.ga K "READERS") "name" = some (some (.ref (He.ga K "read_name"))) := of_decide_eq_true (exAt0 T.m 8 rfl)
theorem vi_ValueError (T : Tp K mg) : PySem.W.findCls K (.type "ValueError") (.type "type") "__init__" = some (.val (.builtin "ValueError.__init__")) := viB_ok (exAt0 T.m 9 rfl)
theorem vi_LookupError (T : Tp K mg) : PySem.W.findCls K (.type "LookupError") (.type "type") "__init__" = some (.val (.builtin "LookupError.__init__")) := viB_ok (exAt0 T.m 10 rfl)
theorem vi_RuntimeError (T : Tp K mg) : PySem.W.findCls K (.type "RuntimeError") (.type "type") "__init__" = some (.val (.builtin "RuntimeError.__init__")) := viB_ok (exAt0 T.m 11 rfl)
theorem vi_IndexError (T : Tp K mg) : PySem.W.findCls K (.type "IndexError") (.type "type") "__init__" = some (.val (.builtin "IndexError.__init__")) := viB_ok (exAt0 T.m 12 rfl)
theorem cd_TideError (T : Tp K mg) : ClsDef K (He.ga K "TideError") (He.ma K (He.ga K "TideError") "__init__") "__init__" := clsDefB_ok (exAt0 T.m 13 rfl)
theorem oe_BadBy (T : Tp K mg) : OxC bVE K (He.ga K "BadBy") := oxB_ok bVE_ok (exAt0 T.m 14 rfl)
theorem xf_BadBy (T : Tp K mg) : XfC K (He.ga K "BadBy") := xfB_ok (exAt0 T.m 15 rfl)
theorem in_BadBy (T : Tp K mg) : InitAt K (He.ga K "BadBy") (He.ma K (He.ga K "BadBy") "__init__") := initB_ok (exAt0 T.m 16 rfl)
theorem nf_BadBy_word (T : Tp K mg) : PySem.W.findIn K (.ref (He.ga K "BadBy")) "word" = some none := of_decide_eq_true (exAt0 T.m 17 rfl)
theorem nf_BadBy_by (T : Tp K mg) : PySem.W.findIn K (.ref (He.ga K "BadBy")) "by" = some none := of_decide_eq_true (exAt0 T.m 18 rfl)
theorem et_BadBy_read_page_0 (T : Tp K mg) : PySem.W.exmAny K (.ref (He.ga K "BadBy")) [.ref (He.ga K "TideError"), .ref (He.ga K "Missing")] = some true := of_decide_eq_true (exAt0 T.m 19 rfl)
theorem et_BadBy_begun_log_0 (T : Tp K mg) : PySem.W.exmAny K (.ref (He.ga K "BadBy")) [.ref (He.ga K "TideError")] = some true := of_decide_eq_true (exAt1 T.m 0 rfl)
theorem et_BadBy__law_why_0 (T : Tp K mg) : PySem.W.exmAny K (.ref (He.ga K "BadBy")) [.ref (He.ga K "TideError")] = some true := of_decide_eq_true (exAt1 T.m 1 rfl)
theorem et_BadBy__law_why_1 (T : Tp K mg) : PySem.W.exmAny K (.ref (He.ga K "BadBy")) [.ref (He.ga K "Missing")] = some false := of_decide_eq_true (exAt1 T.m 2 rfl)
theorem et_BadBy__law_why_2 (T : Tp K mg) : PySem.W.exmAny K (.ref (He.ga K "BadBy")) [.ref (He.ga K "RunFault")] = some false := of_decide_eq_true (exAt1 T.m 3 rfl)
theorem et_BadBy__law_why_3 (T : Tp K mg) : PySem.W.exmAny K (.ref (He.ga K "BadBy")) [.ref (He.ga K "NothingBack")] = some false := of_decide_eq_true (exAt1 T.m 4 rfl)
theorem oe_BadName (T : Tp K mg) : OxC bVE K (He.ga K "BadName") := oxB_ok bVE_ok (exAt1 T.m 5 rfl)
theorem xf_BadName (T : Tp K mg) : XfC K (He.ga K "BadName") := xfB_ok (exAt1 T.m 6 rfl)
theorem in_BadName (T : Tp K mg) : InitAt K (He.ga K "BadName") (He.ma K (He.ga K "BadName") "__init__") := initB_ok (exAt1 T.m 7 rfl)
theorem nf_BadName_word (T : Tp K mg) : PySem.W.findIn K (.ref (He.ga K "BadName")) "word" = some none := of_decide_eq_true (exAt1 T.m 8 rfl)
theorem nf_BadName_name (T : Tp K mg) : PySem.W.findIn K (.ref (He.ga K "BadName")) "name" = some none := of_decide_eq_true (exAt1 T.m 9 rfl)
theorem et_BadName_read_page_0 (T : Tp K mg) : PySem.W.exmAny K (.ref (He.ga K "BadName")) [.ref (He.ga K "TideError"), .ref (He.ga K "Missing")] = some true := of_decide_eq_true (exAt1 T.m 10 rfl)
theorem et_BadName_begun_log_0 (T : Tp K mg) : PySem.W.exmAny K (.ref (He.ga K "BadName")) [.ref (He.ga K "TideError")] = some true := of_decide_eq_true (exAt1 T.m 11 rfl)
theorem et_BadName__law_why_0 (T : Tp K mg) : PySem.W.exmAny K (.ref (He.ga K "BadName")) [.ref (He.ga K "TideError")] = some true := of_decide_eq_true (exAt1 T.m 12 rfl)
theorem et_BadName__law_why_1 (T : Tp K mg) : PySem.W.exmAny K (.ref (He.ga K "BadName")) [.ref (He.ga K "Missing")] = some false := of_decide_eq_true (exAt1 T.m 13 rfl)
theorem et_BadName__law_why_2 (T : Tp K mg) : PySem.W.exmAny K (.ref (He.ga K "BadName")) [.ref (He.ga K "RunFault")] = some false := of_decide_eq_true (exAt1 T.m 14 rfl)
theorem et_BadName__law_why_3 (T : Tp K mg) : PySem.W.exmAny K (.ref (He.ga K "BadName")) [.ref (He.ga K "NothingBack")] = some false := of_decide_eq_true (exAt1 T.m 15 rfl)
theorem oe_Taken (T : Tp K mg) : OxC bVE K (He.ga K "Taken") := oxB_ok bVE_ok (exAt1 T.m 16 rfl)
theorem xf_Taken (T : Tp K mg) : XfC K (He.ga K "Taken") := xfB_ok (exAt1 T.m 17 rfl)
theorem in_Taken (T : Tp K mg) : InitAt K (He.ga K "Taken") (He.ma K (He.ga K "Taken") "__init__") := initB_ok (exAt1 T.m 18 rfl)
theorem nf_Taken_word (T : Tp K mg) : PySem.W.findIn K (.ref (He.ga K "Taken")) "word" = some none := of_decide_eq_true (exAt1 T.m 19 rfl)
theorem nf_Taken_name (T : Tp K mg) : PySem.W.findIn K (.ref (He.ga K "Taken")) "name" = some none := of_decide_eq_true (exAt2 T.m 0 rfl)
theorem et_Taken_read_page_0 (T : Tp K mg) : PySem.W.exmAny K (.ref (He.ga K "Taken")) [.ref (He.ga K "TideError"), .ref (He.ga K "Missing")] = some true := of_decide_eq_true (exAt2 T.m 1 rfl)
theorem et_Taken_begun_log_0 (T : Tp K mg) : PySem.W.exmAny K (.ref (He.ga K "Taken")) [.ref (He.ga K "TideError")] = some true := of_decide_eq_true (exAt2 T.m 2 rfl)
theorem et_Taken__law_why_0 (T : Tp K mg) : PySem.W.exmAny K (.ref (He.ga K "Taken")) [.ref (He.ga K "TideError")] = some true := of_decide_eq_true (exAt2 T.m 3 rfl)
theorem et_Taken__law_why_1 (T : Tp K mg) : PySem.W.exmAny K (.ref (He.ga K "Taken")) [.ref (He.ga K "Missing")] = some false := of_decide_eq_true (exAt2 T.m 4 rfl)
theorem et_Taken__law_why_2 (T : Tp K mg) : PySem.W.exmAny K (.ref (He.ga K "Taken")) [.ref (He.ga K "RunFault")] = some false := of_decide_eq_true (exAt2 T.m 5 rfl)
theorem et_Taken__law_why_3 (T : Tp K mg) : PySem.W.exmAny K (.ref (He.ga K "Taken")) [.ref (He.ga K "NothingBack")] = some false := of_decide_eq_true (exAt2 T.m 6 rfl)
theorem oe_Full (T : Tp K mg) : OxC bVE K (He.ga K "Full") := oxB_ok bVE_ok (exAt2 T.m 7 rfl)
theorem xf_Full (T : Tp K mg) : XfC K (He.ga K "Full") := xfB_ok (exAt2 T.m 8 rfl)
theorem in_Full (T : Tp K mg) : InitAt K (He.ga K "Full") (He.ma K (He.ga K "Full") "__init__") := initB_ok (exAt2 T.m 9 rfl)
theorem nf_Full_word (T : Tp K mg) : PySem.W.findIn K (.ref (He.ga K "Full")) "word" = some none := of_decide_eq_true (exAt2 T.m 10 rfl)
theorem nf_Full_most (T : Tp K mg) : PySem.W.findIn K (.ref (He.ga K "Full")) "most" = some none := of_decide_eq_true (exAt2 T.m 11 rfl)
theorem et_Full_read_page_0 (T : Tp K mg) : PySem.W.exmAny K (.ref (He.ga K "Full")) [.ref (He.ga K "TideError"), .ref (He.ga K "Missing")] = some true := of_decide_eq_true (exAt2 T.m 12 rfl)
theorem et_Full_begun_log_0 (T : Tp K mg) : PySem.W.exmAny K (.ref (He.ga K "Full")) [.ref (He.ga K "TideError")] = some true := of_decide_eq_true (exAt2 T.m 13 rfl)
theorem et_Full__law_why_0 (T : Tp K mg) : PySem.W.exmAny K (.ref (He.ga K "Full")) [.ref (He.ga K "TideError")] = some true := of_decide_eq_true (exAt2 T.m 14 rfl)
theorem et_Full__law_why_1 (T : Tp K mg) : PySem.W.exmAny K (.ref (He.ga K "Full")) [.ref (He.ga K "Missing")] = some false := of_decide_eq_true (exAt2 T.m 15 rfl)
theorem et_Full__law_why_2 (T : Tp K mg) : PySem.W.exmAny K (.ref (He.ga K "Full")) [.ref (He.ga K "RunFault")] = some false := of_decide_eq_true (exAt2 T.m 16 rfl)
theorem et_Full__law_why_3 (T : Tp K mg) : PySem.W.exmAny K (.ref (He.ga K "Full")) [.ref (He.ga K "NothingBack")] = some false := of_decide_eq_true (exAt2 T.m 17 rfl)
theorem oe_BadLength (T : Tp K mg) : OxC bVE K (He.ga K "BadLength") := oxB_ok bVE_ok (exAt2 T.m 18 rfl)
theorem xf_BadLength (T : Tp K mg) : XfC K (He.ga K "BadLength") := xfB_ok (exAt2 T.m 19 rfl)
theorem in_BadLength (T : Tp K mg) : InitAt K (He.ga K "BadLength") (He.ma K (He.ga K "BadLength") "__init__") := initB_ok (exAt3 T.m 0 rfl)
theorem nf_BadLength_word (T : Tp K mg) : PySem.W.findIn K (.ref (He.ga K "BadLength")) "word" = some none := of_decide_eq_true (exAt3 T.m 1 rfl)
theorem nf_BadLength_low (T : Tp K mg) : PySem.W.findIn K (.ref (He.ga K "BadLength")) "low" = some none := of_decide_eq_true (exAt3 T.m 2 rfl)
theorem nf_BadLength_high (T : Tp K mg) : PySem.W.findIn K (.ref (He.ga K "BadLength")) "high" = some none := of_decide_eq_true (exAt3 T.m 3 rfl)
theorem et_BadLength_read_page_0 (T : Tp K mg) : PySem.W.exmAny K (.ref (He.ga K "BadLength")) [.ref (He.ga K "TideError"), .ref (He.ga K "Missing")] = some true := of_decide_eq_true (exAt3 T.m 4 rfl)
theorem et_BadLength_begun_log_0 (T : Tp K mg) : PySem.W.exmAny K (.ref (He.ga K "BadLength")) [.ref (He.ga K "TideError")] = some true := of_decide_eq_true (exAt3 T.m 5 rfl)
theorem et_BadLength__law_why_0 (T : Tp K mg) : PySem.W.exmAny K (.ref (He.ga K "BadLength")) [.ref (He.ga K "TideError")] = some true := of_decide_eq_true (exAt3 T.m 6 rfl)
theorem et_BadLength__law_why_1 (T : Tp K mg) : PySem.W.exmAny K (.ref (He.ga K "BadLength")) [.ref (He.ga K "Missing")] = some false := of_decide_eq_true (exAt3 T.m 7 rfl)
theorem et_BadLength__law_why_2 (T : Tp K mg) : PySem.W.exmAny K (.ref (He.ga K "BadLength")) [.ref (He.ga K "RunFault")] = some false := of_decide_eq_true (exAt3 T.m 8 rfl)
theorem et_BadLength__law_why_3 (T : Tp K mg) : PySem.W.exmAny K (.ref (He.ga K "BadLength")) [.ref (He.ga K "NothingBack")] = some false := of_decide_eq_true (exAt3 T.m 9 rfl)
theorem oe_BadLate (T : Tp K mg) : OxC bVE K (He.ga K "BadLate") := oxB_ok bVE_ok (exAt3 T.m 10 rfl)
theorem xf_BadLate (T : Tp K mg) : XfC K (He.ga K "BadLate") := xfB_ok (exAt3 T.m 11 rfl)
theorem in_BadLate (T : Tp K mg) : InitAt K (He.ga K "BadLate") (He.ma K (He.ga K "BadLate") "__init__") := initB_ok (exAt3 T.m 12 rfl)
theorem nf_BadLate_word (T : Tp K mg) : PySem.W.findIn K (.ref (He.ga K "BadLate")) "word" = some none := of_decide_eq_true (exAt3 T.m 13 rfl)
theorem nf_BadLate_late (T : Tp K mg) : PySem.W.findIn K (.ref (He.ga K "BadLate")) "late" = some none := of_decide_eq_true (exAt3 T.m 14 rfl)
theorem et_BadLate_read_page_0 (T : Tp K mg) : PySem.W.exmAny K (.ref (He.ga K "BadLate")) [.ref (He.ga K "TideError"), .ref (He.ga K "Missing")] = some true := of_decide_eq_true (exAt3 T.m 15 rfl)
theorem et_BadLate_begun_log_0 (T : Tp K mg) : PySem.W.exmAny K (.ref (He.ga K "BadLate")) [.ref (He.ga K "TideError")] = some true := of_decide_eq_true (exAt3 T.m 16 rfl)
theorem et_BadLate__law_why_0 (T : Tp K mg) : PySem.W.exmAny K (.ref (He.ga K "BadLate")) [.ref (He.ga K "TideError")] = some true := of_decide_eq_true (exAt3 T.m 17 rfl)
theorem et_BadLate__law_why_1 (T : Tp K mg) : PySem.W.exmAny K (.ref (He.ga K "BadLate")) [.ref (He.ga K "Missing")] = some false := of_decide_eq_true (exAt3 T.m 18 rfl)
theorem et_BadLate__law_why_2 (T : Tp K mg) : PySem.W.exmAny K (.ref (He.ga K "BadLate")) [.ref (He.ga K "RunFault")] = some false := of_decide_eq_true (exAt3 T.m 19 rfl)
theorem et_BadLate__law_why_3 (T : Tp K mg) : PySem.W.exmAny K (.ref (He.ga K "BadLate")) [.ref (He.ga K "NothingBack")] = some false := of_decide_eq_true (exAt4 T.m 0 rfl)
theorem oe_BadTie (T : Tp K mg) : OxC bVE K (He.ga K "BadTie") := oxB_ok bVE_ok (exAt4 T.m 1 rfl)
theorem xf_BadTie (T : Tp K mg) : XfC K (He.ga K "BadTie") := xfB_ok (exAt4 T.m 2 rfl)
theorem in_BadTie (T : Tp K mg) : InitAt K (He.ga K "BadTie") (He.ma K (He.ga K "BadTie") "__init__") := initB_ok (exAt4 T.m 3 rfl)
theorem nf_BadTie_word (T : Tp K mg) : PySem.W.findIn K (.ref (He.ga K "BadTie")) "word" = some none := of_decide_eq_true (exAt4 T.m 4 rfl)
theorem nf_BadTie_least (T : Tp K mg) : PySem.W.findIn K (.ref (He.ga K "BadTie")) "least" = some none := of_decide_eq_true (exAt4 T.m 5 rfl)
theorem nf_BadTie_most (T : Tp K mg) : PySem.W.findIn K (.ref (He.ga K "BadTie")) "most" = some none := of_decide_eq_true (exAt4 T.m 6 rfl)
theorem et_BadTie_read_page_0 (T : Tp K mg) : PySem.W.exmAny K (.ref (He.ga K "BadTie")) [.ref (He.ga K "TideError"), .ref (He.ga K "Missing")] = some true := of_decide_eq_true (exAt4 T.m 7 rfl)
theorem et_BadTie_begun_log_0 (T : Tp K mg) : PySem.W.exmAny K (.ref (He.ga K "BadTie")) [.ref (He.ga K "TideError")] = some true := of_decide_eq_true (exAt4 T.m 8 rfl)
theorem et_BadTie__law_why_0 (T : Tp K mg) : PySem.W.exmAny K (.ref (He.ga K "BadTie")) [.ref (He.ga K "TideError")] = some true := of_decide_eq_true (exAt4 T.m 9 rfl)
theorem et_BadTie__law_why_1 (T : Tp K mg) : PySem.W.exmAny K (.ref (He.ga K "BadTie")) [.ref (He.ga K "Missing")] = some false := of_decide_eq_true (exAt4 T.m 10 rfl)
theorem et_BadTie__law_why_2 (T : Tp K mg) : PySem.W.exmAny K (.ref (He.ga K "BadTie")) [.ref (He.ga K "RunFault")] = some false := of_decide_eq_true (exAt4 T.m 11 rfl)
theorem et_BadTie__law_why_3 (T : Tp K mg) : PySem.W.exmAny K (.ref (He.ga K "BadTie")) [.ref (He.ga K "NothingBack")] = some false := of_decide_eq_true (exAt4 T.m 12 rfl)
theorem oe_Used (T : Tp K mg) : OxC bVE K (He.ga K "Used") := oxB_ok bVE_ok (exAt4 T.m 13 rfl)
theorem xf_Used (T : Tp K mg) : XfC K (He.ga K "Used") := xfB_ok (exAt4 T.m 14 rfl)
theorem in_Used (T : Tp K mg) : InitAt K (He.ga K "Used") (He.ma K (He.ga K "Used") "__init__") := initB_ok (exAt4 T.m 15 rfl)
theorem nf_Used_word (T : Tp K mg) : PySem.W.findIn K (.ref (He.ga K "Used")) "word" = some none := of_decide_eq_true (exAt4 T.m 16 rfl)
theorem nf_Used_name (T : Tp K mg) : PySem.W.findIn K (.ref (He.ga K "Used")) "name" = some none := of_decide_eq_true (exAt4 T.m 17 rfl)
theorem et_Used_read_page_0 (T : Tp K mg) : PySem.W.exmAny K (.ref (He.ga K "Used")) [.ref (He.ga K "TideError"), .ref (He.ga K "Missing")] = some true := of_decide_eq_true (exAt4 T.m 18 rfl)
theorem et_Used_begun_log_0 (T : Tp K mg) : PySem.W.exmAny K (.ref (He.ga K "Used")) [.ref (He.ga K "TideError")] = some true := of_decide_eq_true (exAt4 T.m 19 rfl)
theorem et_Used__law_why_0 (T : Tp K mg) : PySem.W.exmAny K (.ref (He.ga K "Used")) [.ref (He.ga K "TideError")] = some true := of_decide_eq_true (exAt5 T.m 0 rfl)
theorem et_Used__law_why_1 (T : Tp K mg) : PySem.W.exmAny K (.ref (He.ga K "Used")) [.ref (He.ga K "Missing")] = some false := of_decide_eq_true (exAt5 T.m 1 rfl)
theorem et_Used__law_why_2 (T : Tp K mg) : PySem.W.exmAny K (.ref (He.ga K "Used")) [.ref (He.ga K "RunFault")] = some false := of_decide_eq_true (exAt5 T.m 2 rfl)
theorem et_Used__law_why_3 (T : Tp K mg) : PySem.W.exmAny K (.ref (He.ga K "Used")) [.ref (He.ga K "NothingBack")] = some false := of_decide_eq_true (exAt5 T.m 3 rfl)
theorem oe_BadText (T : Tp K mg) : OxC bVE K (He.ga K "BadText") := oxB_ok bVE_ok (exAt5 T.m 4 rfl)
theorem xf_BadText (T : Tp K mg) : XfC K (He.ga K "BadText") := xfB_ok (exAt5 T.m 5 rfl)
theorem in_BadText (T : Tp K mg) : InitAt K (He.ga K "BadText") (He.ma K (He.ga K "BadText") "__init__") := initB_ok (exAt5 T.m 6 rfl)
theorem nf_BadText_word (T : Tp K mg) : PySem.W.findIn K (.ref (He.ga K "BadText")) "word" = some none := of_decide_eq_true (exAt5 T.m 7 rfl)
theorem nf_BadText_row (T : Tp K mg) : PySem.W.findIn K (.ref (He.ga K "BadText")) "row" = some none := of_decide_eq_true (exAt5 T.m 8 rfl)
theorem et_BadText_read_page_0 (T : Tp K mg) : PySem.W.exmAny K (.ref (He.ga K "BadText")) [.ref (He.ga K "TideError"), .ref (He.ga K "Missing")] = some true := of_decide_eq_true (exAt5 T.m 9 rfl)
theorem et_BadText_begun_log_0 (T : Tp K mg) : PySem.W.exmAny K (.ref (He.ga K "BadText")) [.ref (He.ga K "TideError")] = some true := of_decide_eq_true (exAt5 T.m 10 rfl)
theorem et_BadText__law_why_0 (T : Tp K mg) : PySem.W.exmAny K (.ref (He.ga K "BadText")) [.ref (He.ga K "TideError")] = some true := of_decide_eq_true (exAt5 T.m 11 rfl)
theorem et_BadText__law_why_1 (T : Tp K mg) : PySem.W.exmAny K (.ref (He.ga K "BadText")) [.ref (He.ga K "Missing")] = some false := of_decide_eq_true (exAt5 T.m 12 rfl)
theorem et_BadText__law_why_2 (T : Tp K mg) : PySem.W.exmAny K (.ref (He.ga K "BadText")) [.ref (He.ga K "RunFault")] = some false := of_decide_eq_true (exAt5 T.m 13 rfl)
theorem et_BadText__law_why_3 (T : Tp K mg) : PySem.W.exmAny K (.ref (He.ga K "BadText")) [.ref (He.ga K "NothingBack")] = some false := of_decide_eq_true (exAt5 T.m 14 rfl)
theorem oe_BadDeed (T : Tp K mg) : OxC bVE K (He.ga K "BadDeed") := oxB_ok bVE_ok (exAt5 T.m 15 rfl)
theorem xf_BadDeed (T : Tp K mg) : XfC K (He.ga K "BadDeed") := xfB_ok (exAt5 T.m 16 rfl)
theorem in_BadDeed (T : Tp K mg) : InitAt K (He.ga K "BadDeed") (He.ma K (He.ga K "BadDeed") "__init__") := initB_ok (exAt5 T.m 17 rfl)
theorem nf_BadDeed_word (T : Tp K mg) : PySem.W.findIn K (.ref (He.ga K "BadDeed")) "word" = some none := of_decide_eq_true (exAt5 T.m 18 rfl)
theorem nf_BadDeed_kind (T : Tp K mg) : PySem.W.findIn K (.ref (He.ga K "BadDeed")) "kind" = some none := of_decide_eq_true (exAt5 T.m 19 rfl)
theorem et_BadDeed_read_page_0 (T : Tp K mg) : PySem.W.exmAny K (.ref (He.ga K "BadDeed")) [.ref (He.ga K "TideError"), .ref (He.ga K "Missing")] = some true := of_decide_eq_true (exAt6 T.m 0 rfl)
theorem et_BadDeed_begun_log_0 (T : Tp K mg) : PySem.W.exmAny K (.ref (He.ga K "BadDeed")) [.ref (He.ga K "TideError")] = some true := of_decide_eq_true (exAt6 T.m 1 rfl)
theorem et_BadDeed__law_why_0 (T : Tp K mg) : PySem.W.exmAny K (.ref (He.ga K "BadDeed")) [.ref (He.ga K "TideError")] = some true := of_decide_eq_true (exAt6 T.m 2 rfl)
theorem et_BadDeed__law_why_1 (T : Tp K mg) : PySem.W.exmAny K (.ref (He.ga K "BadDeed")) [.ref (He.ga K "Missing")] = some false := of_decide_eq_true (exAt6 T.m 3 rfl)
theorem et_BadDeed__law_why_2 (T : Tp K mg) : PySem.W.exmAny K (.ref (He.ga K "BadDeed")) [.ref (He.ga K "RunFault")] = some false := of_decide_eq_true (exAt6 T.m 4 rfl)
theorem et_BadDeed__law_why_3 (T : Tp K mg) : PySem.W.exmAny K (.ref (He.ga K "BadDeed")) [.ref (He.ga K "NothingBack")] = some false := of_decide_eq_true (exAt6 T.m 5 rfl)
theorem cd_Missing (T : Tp K mg) : ClsDef K (He.ga K "Missing") (He.ma K (He.ga K "Missing") "__init__") "__init__" := clsDefB_ok (exAt6 T.m 6 rfl)
theorem oe_NoMoment (T : Tp K mg) : OxC bLE K (He.ga K "NoMoment") := oxB_ok bLE_ok (exAt6 T.m 7 rfl)
theorem xf_NoMoment (T : Tp K mg) : XfC K (He.ga K "NoMoment") := xfB_ok (exAt6 T.m 8 rfl)
theorem in_NoMoment (T : Tp K mg) : InitAt K (He.ga K "NoMoment") (He.ma K (He.ga K "NoMoment") "__init__") := initB_ok (exAt6 T.m 9 rfl)
theorem nf_NoMoment_word (T : Tp K mg) : PySem.W.findIn K (.ref (He.ga K "NoMoment")) "word" = some none := of_decide_eq_true (exAt6 T.m 10 rfl)
theorem nf_NoMoment_name (T : Tp K mg) : PySem.W.findIn K (.ref (He.ga K "NoMoment")) "name" = some none := of_decide_eq_true (exAt6 T.m 11 rfl)
theorem et_NoMoment_read_page_0 (T : Tp K mg) : PySem.W.exmAny K (.ref (He.ga K "NoMoment")) [.ref (He.ga K "TideError"), .ref (He.ga K "Missing")] = some true := of_decide_eq_true (exAt6 T.m 12 rfl)
theorem et_NoMoment_begun_log_0 (T : Tp K mg) : PySem.W.exmAny K (.ref (He.ga K "NoMoment")) [.ref (He.ga K "TideError")] = some false := of_decide_eq_true (exAt6 T.m 13 rfl)
theorem et_NoMoment__law_why_0 (T : Tp K mg) : PySem.W.exmAny K (.ref (He.ga K "NoMoment")) [.ref (He.ga K "TideError")] = some false := of_decide_eq_true (exAt6 T.m 14 rfl)
theorem et_NoMoment__law_why_1 (T : Tp K mg) : PySem.W.exmAny K (.ref (He.ga K "NoMoment")) [.ref (He.ga K "Missing")] = some true := of_decide_eq_true (exAt6 T.m 15 rfl)
theorem et_NoMoment__law_why_2 (T : Tp K mg) : PySem.W.exmAny K (.ref (He.ga K "NoMoment")) [.ref (He.ga K "RunFault")] = some false := of_decide_eq_true (exAt6 T.m 16 rfl)
theorem et_NoMoment__law_why_3 (T : Tp K mg) : PySem.W.exmAny K (.ref (He.ga K "NoMoment")) [.ref (He.ga K "NothingBack")] = some false := of_decide_eq_true (exAt6 T.m 17 rfl)
theorem oe_NoPoint (T : Tp K mg) : OxC bLE K (He.ga K "NoPoint") := oxB_ok bLE_ok (exAt6 T.m 18 rfl)
theorem xf_NoPoint (T : Tp K mg) : XfC K (He.ga K "NoPoint") := xfB_ok (exAt6 T.m 19 rfl)
theorem in_NoPoint (T : Tp K mg) : InitAt K (He.ga K "NoPoint") (He.ma K (He.ga K "NoPoint") "__init__") := initB_ok (exAt7 T.m 0 rfl)
theorem nf_NoPoint_word (T : Tp K mg) : PySem.W.findIn K (.ref (He.ga K "NoPoint")) "word" = some none := of_decide_eq_true (exAt7 T.m 1 rfl)
theorem nf_NoPoint_name (T : Tp K mg) : PySem.W.findIn K (.ref (He.ga K "NoPoint")) "name" = some none := of_decide_eq_true (exAt7 T.m 2 rfl)
theorem et_NoPoint_read_page_0 (T : Tp K mg) : PySem.W.exmAny K (.ref (He.ga K "NoPoint")) [.ref (He.ga K "TideError"), .ref (He.ga K "Missing")] = some true := of_decide_eq_true (exAt7 T.m 3 rfl)
theorem et_NoPoint_begun_log_0 (T : Tp K mg) : PySem.W.exmAny K (.ref (He.ga K "NoPoint")) [.ref (He.ga K "TideError")] = some false := of_decide_eq_true (exAt7 T.m 4 rfl)
theorem et_NoPoint__law_why_0 (T : Tp K mg) : PySem.W.exmAny K (.ref (He.ga K "NoPoint")) [.ref (He.ga K "TideError")] = some false := of_decide_eq_true (exAt7 T.m 5 rfl)
theorem et_NoPoint__law_why_1 (T : Tp K mg) : PySem.W.exmAny K (.ref (He.ga K "NoPoint")) [.ref (He.ga K "Missing")] = some true := of_decide_eq_true (exAt7 T.m 6 rfl)
theorem et_NoPoint__law_why_2 (T : Tp K mg) : PySem.W.exmAny K (.ref (He.ga K "NoPoint")) [.ref (He.ga K "RunFault")] = some false := of_decide_eq_true (exAt7 T.m 7 rfl)
theorem et_NoPoint__law_why_3 (T : Tp K mg) : PySem.W.exmAny K (.ref (He.ga K "NoPoint")) [.ref (He.ga K "NothingBack")] = some false := of_decide_eq_true (exAt7 T.m 8 rfl)
theorem oe_NoTie (T : Tp K mg) : OxC bLE K (He.ga K "NoTie") := oxB_ok bLE_ok (exAt7 T.m 9 rfl)
theorem xf_NoTie (T : Tp K mg) : XfC K (He.ga K "NoTie") := xfB_ok (exAt7 T.m 10 rfl)
theorem in_NoTie (T : Tp K mg) : InitAt K (He.ga K "NoTie") (He.ma K (He.ga K "NoTie") "__init__") := initB_ok (exAt7 T.m 11 rfl)
theorem nf_NoTie_word (T : Tp K mg) : PySem.W.findIn K (.ref (He.ga K "NoTie")) "word" = some none := of_decide_eq_true (exAt7 T.m 12 rfl)
theorem nf_NoTie_at (T : Tp K mg) : PySem.W.findIn K (.ref (He.ga K "NoTie")) "at" = some none := of_decide_eq_true (exAt7 T.m 13 rfl)
theorem et_NoTie_read_page_0 (T : Tp K mg) : PySem.W.exmAny K (.ref (He.ga K "NoTie")) [.ref (He.ga K "TideError"), .ref (He.ga K "Missing")] = some true := of_decide_eq_true (exAt7 T.m 14 rfl)
theorem et_NoTie_begun_log_0 (T : Tp K mg) : PySem.W.exmAny K (.ref (He.ga K "NoTie")) [.ref (He.ga K "TideError")] = some false := of_decide_eq_true (exAt7 T.m 15 rfl)
theorem et_NoTie__law_why_0 (T : Tp K mg) : PySem.W.exmAny K (.ref (He.ga K "NoTie")) [.ref (He.ga K "TideError")] = some false := of_decide_eq_true (exAt7 T.m 16 rfl)
theorem et_NoTie__law_why_1 (T : Tp K mg) : PySem.W.exmAny K (.ref (He.ga K "NoTie")) [.ref (He.ga K "Missing")] = some true := of_decide_eq_true (exAt7 T.m 17 rfl)
theorem et_NoTie__law_why_2 (T : Tp K mg) : PySem.W.exmAny K (.ref (He.ga K "NoTie")) [.ref (He.ga K "RunFault")] = some false := of_decide_eq_true (exAt7 T.m 18 rfl)
theorem et_NoTie__law_why_3 (T : Tp K mg) : PySem.W.exmAny K (.ref (He.ga K "NoTie")) [.ref (He.ga K "NothingBack")] = some false := of_decide_eq_true (exAt7 T.m 19 rfl)
theorem oe_NoDeed (T : Tp K mg) : OxC bLE K (He.ga K "NoDeed") := oxB_ok bLE_ok (exAt8 T.m 0 rfl)
theorem xf_NoDeed (T : Tp K mg) : XfC K (He.ga K "NoDeed") := xfB_ok (exAt8 T.m 1 rfl)
theorem in_NoDeed (T : Tp K mg) : InitAt K (He.ga K "NoDeed") (He.ma K (He.ga K "NoDeed") "__init__") := initB_ok (exAt8 T.m 2 rfl)
theorem nf_NoDeed_word (T : Tp K mg) : PySem.W.findIn K (.ref (He.ga K "NoDeed")) "word" = some none := of_decide_eq_true (exAt8 T.m 3 rfl)
theorem nf_NoDeed_at (T : Tp K mg) : PySem.W.findIn K (.ref (He.ga K "NoDeed")) "at" = some none := of_decide_eq_true (exAt8 T.m 4 rfl)
theorem et_NoDeed_read_page_0 (T : Tp K mg) : PySem.W.exmAny K (.ref (He.ga K "NoDeed")) [.ref (He.ga K "TideError"), .ref (He.ga K "Missing")] = some true := of_decide_eq_true (exAt8 T.m 5 rfl)
theorem et_NoDeed_begun_log_0 (T : Tp K mg) : PySem.W.exmAny K (.ref (He.ga K "NoDeed")) [.ref (He.ga K "TideError")] = some false := of_decide_eq_true (exAt8 T.m 6 rfl)
theorem et_NoDeed__law_why_0 (T : Tp K mg) : PySem.W.exmAny K (.ref (He.ga K "NoDeed")) [.ref (He.ga K "TideError")] = some false := of_decide_eq_true (exAt8 T.m 7 rfl)
theorem et_NoDeed__law_why_1 (T : Tp K mg) : PySem.W.exmAny K (.ref (He.ga K "NoDeed")) [.ref (He.ga K "Missing")] = some true := of_decide_eq_true (exAt8 T.m 8 rfl)
theorem et_NoDeed__law_why_2 (T : Tp K mg) : PySem.W.exmAny K (.ref (He.ga K "NoDeed")) [.ref (He.ga K "RunFault")] = some false := of_decide_eq_true (exAt8 T.m 9 rfl)
theorem et_NoDeed__law_why_3 (T : Tp K mg) : PySem.W.exmAny K (.ref (He.ga K "NoDeed")) [.ref (He.ga K "NothingBack")] = some false := of_decide_eq_true (exAt8 T.m 10 rfl)
theorem oe_RunFault (T : Tp K mg) : OxC bRE K (He.ga K "RunFault") := oxB_ok bRE_ok (exAt8 T.m 11 rfl)
theorem xf_RunFault (T : Tp K mg) : XfC K (He.ga K "RunFault") := xfB_ok (exAt8 T.m 12 rfl)
theorem in_RunFault (T : Tp K mg) : InitAt K (He.ga K "RunFault") (He.ma K (He.ga K "RunFault") "__init__") := initB_ok (exAt8 T.m 13 rfl)
theorem nf_RunFault_word (T : Tp K mg) : PySem.W.findIn K (.ref (He.ga K "RunFault")) "word" = some none := of_decide_eq_true (exAt8 T.m 14 rfl)
theorem et_RunFault_read_page_0 (T : Tp K mg) : PySem.W.exmAny K (.ref (He.ga K "RunFault")) [.ref (He.ga K "TideError"), .ref (He.ga K "Missing")] = some false := of_decide_eq_true (exAt8 T.m 15 rfl)
theorem et_RunFault_begun_log_0 (T : Tp K mg) : PySem.W.exmAny K (.ref (He.ga K "RunFault")) [.ref (He.ga K "TideError")] = some false := of_decide_eq_true (exAt8 T.m 16 rfl)
theorem et_RunFault__law_why_0 (T : Tp K mg) : PySem.W.exmAny K (.ref (He.ga K "RunFault")) [.ref (He.ga K "TideError")] = some false := of_decide_eq_true (exAt8 T.m 17 rfl)
theorem et_RunFault__law_why_1 (T : Tp K mg) : PySem.W.exmAny K (.ref (He.ga K "RunFault")) [.ref (He.ga K "Missing")] = some false := of_decide_eq_true (exAt8 T.m 18 rfl)
theorem et_RunFault__law_why_2 (T : Tp K mg) : PySem.W.exmAny K (.ref (He.ga K "RunFault")) [.ref (He.ga K "RunFault")] = some true := of_decide_eq_true (exAt8 T.m 19 rfl)
theorem et_RunFault__law_why_3 (T : Tp K mg) : PySem.W.exmAny K (.ref (He.ga K "RunFault")) [.ref (He.ga K "NothingBack")] = some false := of_decide_eq_true (exAt9 T.m 0 rfl)
theorem oe_NothingBack (T : Tp K mg) : OxC bIE K (He.ga K "NothingBack") := oxB_ok bIE_ok (exAt9 T.m 1 rfl)
theorem xf_NothingBack (T : Tp K mg) : XfC K (He.ga K "NothingBack") := xfB_ok (exAt9 T.m 2 rfl)
theorem in_NothingBack (T : Tp K mg) : InitAt K (He.ga K "NothingBack") (He.ma K (He.ga K "NothingBack") "__init__") := initB_ok (exAt9 T.m 3 rfl)
theorem nf_NothingBack_word (T : Tp K mg) : PySem.W.findIn K (.ref (He.ga K "NothingBack")) "word" = some none := of_decide_eq_true (exAt9 T.m 4 rfl)
theorem et_NothingBack_read_page_0 (T : Tp K mg) : PySem.W.exmAny K (.ref (He.ga K "NothingBack")) [.ref (He.ga K "TideError"), .ref (He.ga K "Missing")] = some false := of_decide_eq_true (exAt9 T.m 5 rfl)
theorem et_NothingBack_begun_log_0 (T : Tp K mg) : PySem.W.exmAny K (.ref (He.ga K "NothingBack")) [.ref (He.ga K "TideError")] = some false := of_decide_eq_true (exAt9 T.m 6 rfl)
theorem et_NothingBack__law_why_0 (T : Tp K mg) : PySem.W.exmAny K (.ref (He.ga K "NothingBack")) [.ref (He.ga K "TideError")] = some false := of_decide_eq_true (exAt9 T.m 7 rfl)
theorem et_NothingBack__law_why_1 (T : Tp K mg) : PySem.W.exmAny K (.ref (He.ga K "NothingBack")) [.ref (He.ga K "Missing")] = some false := of_decide_eq_true (exAt9 T.m 8 rfl)
theorem et_NothingBack__law_why_2 (T : Tp K mg) : PySem.W.exmAny K (.ref (He.ga K "NothingBack")) [.ref (He.ga K "RunFault")] = some false := of_decide_eq_true (exAt9 T.m 9 rfl)
theorem et_NothingBack__law_why_3 (T : Tp K mg) : PySem.W.exmAny K (.ref (He.ga K "NothingBack")) [.ref (He.ga K "NothingBack")] = some true := of_decide_eq_true (exAt9 T.m 10 rfl)
theorem dt__law_log_turn (T : Tp K mg) : ¬ (He.cT K ("law", none)).2 = (He.cT K ("_law_log_turn", none)).2 := of_decide_eq_true (exAt9 T.m 11 rfl)
theorem ti0_Web (T : Tp K mg) : PySem.W.findIn K (.ref (He.ga K "Web")) "__class__" = some (some (.builtin "object.__class__")) := of_decide_eq_true (exAt9 T.m 12 rfl)
theorem ti1_Web (T : Tp K mg) : PySem.W.specialIn K (.builtin "object.__class__") "__get__" = some (some (.builtin "getset_descriptor.__get__")) := of_decide_eq_true (exAt9 T.m 13 rfl)
theorem ti2_Web (T : Tp K mg) : PySem.W.takesIn K (.builtin "object.__class__") = some true := of_decide_eq_true (exAt9 T.m 14 rfl)
theorem ti3_Web (T : Tp K mg) : PySem.W.mroIn K (He.ga K "Web") (.type "object") = some true := of_decide_eq_true (exAt9 T.m 15 rfl)
theorem bm_Web_with_by (T : Tp K mg) : BMeth K (He.ga K "Web") "with_by" (He.ma K (He.ga K "Web") "with_by") := bm_ok (me_Web_with_by T) (exAt9 T.m 16 rfl)
theorem bm_Web_with_moment (T : Tp K mg) : BMeth K (He.ga K "Web") "with_moment" (He.ma K (He.ga K "Web") "with_moment") := bm_ok (me_Web_with_moment T) (exAt9 T.m 17 rfl)
theorem bm_Web_without (T : Tp K mg) : BMeth K (He.ga K "Web") "without" (He.ma K (He.ga K "Web") "without") := bm_ok (me_Web_without T) (exAt9 T.m 18 rfl)
theorem bm_Web_without_tie (T : Tp K mg) : BMeth K (He.ga K "Web") "without_tie" (He.ma K (He.ga K "Web") "without_tie") := bm_ok (me_Web_without_tie T) (exAt9 T.m 19 rfl)
theorem ne_Web (T : Tp K mg) : PySem.W.findIn K (.ref (He.ga K "Web")) "__ne__" = some (some (.builtin "object.__ne__")) := of_decide_eq_true (exAt10 T.m 0 rfl)
theorem ob_Web (T : Tp K mg) : PySem.W.subIn K (.ref (He.ga K "Web")) (.type "object") = some true := of_decide_eq_true (exAt10 T.m 1 rfl)
theorem sd_Web (T : Tp K mg) : PySem.W.subIn K (.type "dict") (.ref (He.ga K "Web")) = some false := of_decide_eq_true (exAt10 T.m 2 rfl)
theorem kd_Web (T : Tp K mg) : PySem.W.kitOne K (.type "dict") (.ref (He.ga K "Web")) = some false := of_decide_eq_true (exAt10 T.m 3 rfl)
theorem sl_Web (T : Tp K mg) : PySem.W.subIn K (.type "list") (.ref (He.ga K "Web")) = some false := of_decide_eq_true (exAt10 T.m 4 rfl)
theorem kl_Web (T : Tp K mg) : PySem.W.kitOne K (.type "list") (.ref (He.ga K "Web")) = some false := of_decide_eq_true (exAt10 T.m 5 rfl)
theorem sz_Web (T : Tp K mg) : PySem.W.subIn K (.type "str") (.ref (He.ga K "Web")) = some false := of_decide_eq_true (exAt10 T.m 6 rfl)
theorem kz_Web (T : Tp K mg) : PySem.W.kitOne K (.type "str") (.ref (He.ga K "Web")) = some false := of_decide_eq_true (exAt10 T.m 7 rfl)
theorem f_TideError_UinitU (T : Tp K mg) : ∃ fd, FunD K "__init__" "TideError.__init__" (defArgs s_TideError_UinitU) (defBody s_TideError_UinitU) (defScope s_TideError_UinitU) [(V.str "TideError" : V), (V.str "refused" : V)] [] (He.ma K (He.ga K "TideError") "__init__") fd := T.c.def_ 0 (d := d_TideError_UinitU) rfl
theorem f_BadBy_UinitU (T : Tp K mg) : ∃ fd, FunD K "__init__" "BadBy.__init__" (defArgs s_BadBy_UinitU) (defBody s_BadBy_UinitU) (defScope s_BadBy_UinitU) [] [] (He.ma K (He.ga K "BadBy") "__init__") fd := T.c.def_ 1 (d := d_BadBy_UinitU) rfl
theorem b_BadBy_UinitU {f : Addr} {fd : FuncData} (F : FunD K "__init__" "BadBy.__init__" (defArgs s_BadBy_UinitU) (defBody s_BadBy_UinitU) (defScope s_BadBy_UinitU) [] [] f fd) : Binds K fd ["self", "by"] [] := F.bindsN fun _ _ _ _ _ _ us hl => match us, hl with | [_, _], _ => rfl
theorem f_BadName_UinitU (T : Tp K mg) : ∃ fd, FunD K "__init__" "BadName.__init__" (defArgs s_BadName_UinitU) (defBody s_BadName_UinitU) (defScope s_BadName_UinitU) [] [] (He.ma K (He.ga K "BadName") "__init__") fd := T.c.def_ 2 (d := d_BadName_UinitU) rfl
theorem b_BadName_UinitU {f : Addr} {fd : FuncData} (F : FunD K "__init__" "BadName.__init__" (defArgs s_BadName_UinitU) (defBody s_BadName_UinitU) (defScope s_BadName_UinitU) [] [] f fd) : Binds K fd ["self", "name"] [] := F.bindsN fun _ _ _ _ _ _ us hl => match us, hl with | [_, _], _ => rfl
theorem f_Taken_UinitU (T : Tp K mg) : ∃ fd, FunD K "__init__" "Taken.__init__" (defArgs s_Taken_UinitU) (defBody s_Taken_UinitU) (defScope s_Taken_UinitU) [] [] (He.ma K (He.ga K "Taken") "__init__") fd := T.c.def_ 3 (d := d_Taken_UinitU) rfl
theorem b_Taken_UinitU {f : Addr} {fd : FuncData} (F : FunD K "__init__" "Taken.__init__" (defArgs s_Taken_UinitU) (defBody s_Taken_UinitU) (defScope s_Taken_UinitU) [] [] f fd) : Binds K fd ["self", "name"] [] := F.bindsN fun _ _ _ _ _ _ us hl => match us, hl with | [_, _], _ => rfl
theorem f_Full_UinitU (T : Tp K mg) : ∃ fd, FunD K "__init__" "Full.__init__" (defArgs s_Full_UinitU) (defBody s_Full_UinitU) (defScope s_Full_UinitU) [] [] (He.ma K (He.ga K "Full") "__init__") fd := T.c.def_ 4 (d := d_Full_UinitU) rfl
theorem b_Full_UinitU {f : Addr} {fd : FuncData} (F : FunD K "__init__" "Full.__init__" (defArgs s_Full_UinitU) (defBody s_Full_UinitU) (defScope s_Full_UinitU) [] [] f fd) : Binds K fd ["self", "most"] [] := F.bindsN fun _ _ _ _ _ _ us hl => match us, hl with | [_, _], _ => rfl
theorem f_BadLength_UinitU (T : Tp K mg) : ∃ fd, FunD K "__init__" "BadLength.__init__" (defArgs s_BadLength_UinitU) (defBody s_BadLength_UinitU) (defScope s_BadLength_UinitU) [] [] (He.ma K (He.ga K "BadLength") "__init__") fd := T.c.def_ 5 (d := d_BadLength_UinitU) rfl
theorem b_BadLength_UinitU {f : Addr} {fd : FuncData} (F : FunD K "__init__" "BadLength.__init__" (defArgs s_BadLength_UinitU) (defBody s_BadLength_UinitU) (defScope s_BadLength_UinitU) [] [] f fd) : Binds K fd ["self", "low", "high"] [] := F.bindsN fun _ _ _ _ _ _ us hl => match us, hl with | [_, _, _], _ => rfl
theorem f_BadLate_UinitU (T : Tp K mg) : ∃ fd, FunD K "__init__" "BadLate.__init__" (defArgs s_BadLate_UinitU) (defBody s_BadLate_UinitU) (defScope s_BadLate_UinitU) [] [] (He.ma K (He.ga K "BadLate") "__init__") fd := T.c.def_ 6 (d := d_BadLate_UinitU) rfl
theorem b_BadLate_UinitU {f : Addr} {fd : FuncData} (F : FunD K "__init__" "BadLate.__init__" (defArgs s_BadLate_UinitU) (defBody s_BadLate_UinitU) (defScope s_BadLate_UinitU) [] [] f fd) : Binds K fd ["self", "late"] [] := F.bindsN fun _ _ _ _ _ _ us hl => match us, hl with | [_, _], _ => rfl
theorem f_BadTie_UinitU (T : Tp K mg) : ∃ fd, FunD K "__init__" "BadTie.__init__" (defArgs s_BadTie_UinitU) (defBody s_BadTie_UinitU) (defScope s_BadTie_UinitU) [] [] (He.ma K (He.ga K "BadTie") "__init__") fd := T.c.def_ 7 (d := d_BadTie_UinitU) rfl
theorem b_BadTie_UinitU {f : Addr} {fd : FuncData} (F : FunD K "__init__" "BadTie.__init__" (defArgs s_BadTie_UinitU) (defBody s_BadTie_UinitU) (defScope s_BadTie_UinitU) [] [] f fd) : Binds K fd ["self", "least", "most"] [] := F.bindsN fun _ _ _ _ _ _ us hl => match us, hl with | [_, _, _], _ => rfl
theorem f_Used_UinitU (T : Tp K mg) : ∃ fd, FunD K "__init__" "Used.__init__" (defArgs s_Used_UinitU) (defBody s_Used_UinitU) (defScope s_Used_UinitU) [] [] (He.ma K (He.ga K "Used") "__init__") fd := T.c.def_ 8 (d := d_Used_UinitU) rfl
theorem b_Used_UinitU {f : Addr} {fd : FuncData} (F : FunD K "__init__" "Used.__init__" (defArgs s_Used_UinitU) (defBody s_Used_UinitU) (defScope s_Used_UinitU) [] [] f fd) : Binds K fd ["self", "name"] [] := F.bindsN fun _ _ _ _ _ _ us hl => match us, hl with | [_, _], _ => rfl
theorem f_BadText_UinitU (T : Tp K mg) : ∃ fd, FunD K "__init__" "BadText.__init__" (defArgs s_BadText_UinitU) (defBody s_BadText_UinitU) (defScope s_BadText_UinitU) [] [] (He.ma K (He.ga K "BadText") "__init__") fd := T.c.def_ 9 (d := d_BadText_UinitU) rfl
theorem b_BadText_UinitU {f : Addr} {fd : FuncData} (F : FunD K "__init__" "BadText.__init__" (defArgs s_BadText_UinitU) (defBody s_BadText_UinitU) (defScope s_BadText_UinitU) [] [] f fd) : Binds K fd ["self", "row"] [] := F.bindsN fun _ _ _ _ _ _ us hl => match us, hl with | [_, _], _ => rfl
theorem f_BadDeed_UinitU (T : Tp K mg) : ∃ fd, FunD K "__init__" "BadDeed.__init__" (defArgs s_BadDeed_UinitU) (defBody s_BadDeed_UinitU) (defScope s_BadDeed_UinitU) [] [] (He.ma K (He.ga K "BadDeed") "__init__") fd := T.c.def_ 10 (d := d_BadDeed_UinitU) rfl
theorem b_BadDeed_UinitU {f : Addr} {fd : FuncData} (F : FunD K "__init__" "BadDeed.__init__" (defArgs s_BadDeed_UinitU) (defBody s_BadDeed_UinitU) (defScope s_BadDeed_UinitU) [] [] f fd) : Binds K fd ["self", "kind"] [] := F.bindsN fun _ _ _ _ _ _ us hl => match us, hl with | [_, _], _ => rfl
theorem f_Missing_UinitU (T : Tp K mg) : ∃ fd, FunD K "__init__" "Missing.__init__" (defArgs s_Missing_UinitU) (defBody s_Missing_UinitU) (defScope s_Missing_UinitU) [(V.str "Missing" : V), (V.str "refused" : V)] [] (He.ma K (He.ga K "Missing") "__init__") fd := T.c.def_ 11 (d := d_Missing_UinitU) rfl
theorem f_NoMoment_UinitU (T : Tp K mg) : ∃ fd, FunD K "__init__" "NoMoment.__init__" (defArgs s_NoMoment_UinitU) (defBody s_NoMoment_UinitU) (defScope s_NoMoment_UinitU) [] [] (He.ma K (He.ga K "NoMoment") "__init__") fd := T.c.def_ 12 (d := d_NoMoment_UinitU) rfl
theorem b_NoMoment_UinitU {f : Addr} {fd : FuncData} (F : FunD K "__init__" "NoMoment.__init__" (defArgs s_NoMoment_UinitU) (defBody s_NoMoment_UinitU) (defScope s_NoMoment_UinitU) [] [] f fd) : Binds K fd ["self", "name"] [] := F.bindsN fun _ _ _ _ _ _ us hl => match us, hl with | [_, _], _ => rfl
theorem f_NoPoint_UinitU (T : Tp K mg) : ∃ fd, FunD K "__init__" "NoPoint.__init__" (defArgs s_NoPoint_UinitU) (defBody s_NoPoint_UinitU) (defScope s_NoPoint_UinitU) [] [] (He.ma K (He.ga K "NoPoint") "__init__") fd := T.c.def_ 13 (d := d_NoPoint_UinitU) rfl
theorem b_NoPoint_UinitU {f : Addr} {fd : FuncData} (F : FunD K "__init__" "NoPoint.__init__" (defArgs s_NoPoint_UinitU) (defBody s_NoPoint_UinitU) (defScope s_NoPoint_UinitU) [] [] f fd) : Binds K fd ["self", "name"] [] := F.bindsN fun _ _ _ _ _ _ us hl => match us, hl with | [_, _], _ => rfl
theorem f_NoTie_UinitU (T : Tp K mg) : ∃ fd, FunD K "__init__" "NoTie.__init__" (defArgs s_NoTie_UinitU) (defBody s_NoTie_UinitU) (defScope s_NoTie_UinitU) [] [] (He.ma K (He.ga K "NoTie") "__init__") fd := T.c.def_ 14 (d := d_NoTie_UinitU) rfl
theorem b_NoTie_UinitU {f : Addr} {fd : FuncData} (F : FunD K "__init__" "NoTie.__init__" (defArgs s_NoTie_UinitU) (defBody s_NoTie_UinitU) (defScope s_NoTie_UinitU) [] [] f fd) : Binds K fd ["self", "at"] [] := F.bindsN fun _ _ _ _ _ _ us hl => match us, hl with | [_, _], _ => rfl
theorem f_NoDeed_UinitU (T : Tp K mg) : ∃ fd, FunD K "__init__" "NoDeed.__init__" (defArgs s_NoDeed_UinitU) (defBody s_NoDeed_UinitU) (defScope s_NoDeed_UinitU) [] [] (He.ma K (He.ga K "NoDeed") "__init__") fd := T.c.def_ 15 (d := d_NoDeed_UinitU) rfl
theorem b_NoDeed_UinitU {f : Addr} {fd : FuncData} (F : FunD K "__init__" "NoDeed.__init__" (defArgs s_NoDeed_UinitU) (defBody s_NoDeed_UinitU) (defScope s_NoDeed_UinitU) [] [] f fd) : Binds K fd ["self", "at"] [] := F.bindsN fun _ _ _ _ _ _ us hl => match us, hl with | [_, _], _ => rfl
theorem f_RunFault_UinitU (T : Tp K mg) : ∃ fd, FunD K "__init__" "RunFault.__init__" (defArgs s_RunFault_UinitU) (defBody s_RunFault_UinitU) (defScope s_RunFault_UinitU) [(V.str "RunFault" : V), (V.str "refused" : V)] [] (He.ma K (He.ga K "RunFault") "__init__") fd := T.c.def_ 16 (d := d_RunFault_UinitU) rfl
theorem f_NothingBack_UinitU (T : Tp K mg) : ∃ fd, FunD K "__init__" "NothingBack.__init__" (defArgs s_NothingBack_UinitU) (defBody s_NothingBack_UinitU) (defScope s_NothingBack_UinitU) [] [] (He.ma K (He.ga K "NothingBack") "__init__") fd := T.c.def_ 17 (d := d_NothingBack_UinitU) rfl
theorem b_NothingBack_UinitU {f : Addr} {fd : FuncData} (F : FunD K "__init__" "NothingBack.__init__" (defArgs s_NothingBack_UinitU) (defBody s_NothingBack_UinitU) (defScope s_NothingBack_UinitU) [] [] f fd) : Binds K fd ["self"] [] := F.bindsN fun _ _ _ _ _ _ us hl => match us, hl with | [_], _ => rfl
theorem f_is_number (T : Tp K mg) : ∃ fd, FunD K "is_number" "is_number" (defArgs s_is_number) (defBody s_is_number) (defScope s_is_number) [] [] (He.ga K "is_number") fd := T.c.def_ 18 (d := d_is_number) rfl
theorem b_is_number {f : Addr} {fd : FuncData} (F : FunD K "is_number" "is_number" (defArgs s_is_number) (defBody s_is_number) (defScope s_is_number) [] [] f fd) : Binds K fd ["thing"] [] := F.bindsN fun _ _ _ _ _ _ us hl => match us, hl with | [_], _ => rfl
theorem f_is_whole (T : Tp K mg) : ∃ fd, FunD K "is_whole" "is_whole" (defArgs s_is_whole) (defBody s_is_whole) (defScope s_is_whole) [] [] (He.ga K "is_whole") fd := T.c.def_ 19 (d := d_is_whole) rfl
theorem b_is_whole {f : Addr} {fd : FuncData} (F : FunD K "is_whole" "is_whole" (defArgs s_is_whole) (defBody s_is_whole) (defScope s_is_whole) [] [] f fd) : Binds K fd ["thing", "least", "most"] [] := F.bindsN fun _ _ _ _ _ _ us hl => match us, hl with | [_, _, _], _ => rfl
theorem f_is_one_of (T : Tp K mg) : ∃ fd, FunD K "is_one_of" "is_one_of" (defArgs s_is_one_of) (defBody s_is_one_of) (defScope s_is_one_of) [] [] (He.ga K "is_one_of") fd := T.c.def_ 20 (d := d_is_one_of) rfl
theorem b_is_one_of {f : Addr} {fd : FuncData} (F : FunD K "is_one_of" "is_one_of" (defArgs s_is_one_of) (defBody s_is_one_of) (defScope s_is_one_of) [] [] f fd) : Binds K fd ["thing", "names"] [] := F.bindsN fun _ _ _ _ _ _ us hl => match us, hl with | [_, _], _ => rfl
theorem f_is_name (T : Tp K mg) : ∃ fd, FunD K "is_name" "is_name" (defArgs s_is_name) (defBody s_is_name) (defScope s_is_name) [] [] (He.ga K "is_name") fd := T.c.def_ 21 (d := d_is_name) rfl
theorem b_is_name {f : Addr} {fd : FuncData} (F : FunD K "is_name" "is_name" (defArgs s_is_name) (defBody s_is_name) (defScope s_is_name) [] [] f fd) : Binds K fd ["thing"] [] := F.bindsN fun _ _ _ _ _ _ us hl => match us, hl with | [_], _ => rfl
theorem f_is_figures (T : Tp K mg) : ∃ fd, FunD K "is_figures" "is_figures" (defArgs s_is_figures) (defBody s_is_figures) (defScope s_is_figures) [] [] (He.ga K "is_figures") fd := T.c.def_ 22 (d := d_is_figures) rfl
theorem b_is_figures {f : Addr} {fd : FuncData} (F : FunD K "is_figures" "is_figures" (defArgs s_is_figures) (defBody s_is_figures) (defScope s_is_figures) [] [] f fd) : Binds K fd ["word"] [] := F.bindsN fun _ _ _ _ _ _ us hl => match us, hl with | [_], _ => rfl
theorem f_read_number (T : Tp K mg) : ∃ fd, FunD K "read_number" "read_number" (defArgs s_read_number) (defBody s_read_number) (defScope s_read_number) [] [] (He.ga K "read_number") fd := T.c.def_ 23 (d := d_read_number) rfl
theorem b_read_number {f : Addr} {fd : FuncData} (F : FunD K "read_number" "read_number" (defArgs s_read_number) (defBody s_read_number) (defScope s_read_number) [] [] f fd) : Binds K fd ["word"] [] := F.bindsN fun _ _ _ _ _ _ us hl => match us, hl with | [_], _ => rfl
theorem f_read_bound (T : Tp K mg) : ∃ fd, FunD K "read_bound" "read_bound" (defArgs s_read_bound) (defBody s_read_bound) (defScope s_read_bound) [] [] (He.ga K "read_bound") fd := T.c.def_ 24 (d := d_read_bound) rfl
theorem b_read_bound {f : Addr} {fd : FuncData} (F : FunD K "read_bound" "read_bound" (defArgs s_read_bound) (defBody s_read_bound) (defScope s_read_bound) [] [] f fd) : Binds K fd ["word"] [] := F.bindsN fun _ _ _ _ _ _ us hl => match us, hl with | [_], _ => rfl
theorem f_read_name (T : Tp K mg) : ∃ fd, FunD K "read_name" "read_name" (defArgs s_read_name) (defBody s_read_name) (defScope s_read_name) [] [] (He.ga K "read_name") fd := T.c.def_ 25 (d := d_read_name) rfl
theorem b_read_name {f : Addr} {fd : FuncData} (F : FunD K "read_name" "read_name" (defArgs s_read_name) (defBody s_read_name) (defScope s_read_name) [] [] f fd) : Binds K fd ["word"] [] := F.bindsN fun _ _ _ _ _ _ us hl => match us, hl with | [_], _ => rfl
theorem f_written (T : Tp K mg) : ∃ fd, FunD K "written" "written" (defArgs s_written) (defBody s_written) (defScope s_written) [] [] (He.ga K "written") fd := T.c.def_ 26 (d := d_written) rfl
theorem b_written {f : Addr} {fd : FuncData} (F : FunD K "written" "written" (defArgs s_written) (defBody s_written) (defScope s_written) [] [] f fd) : Binds K fd ["thing"] [] := F.bindsN fun _ _ _ _ _ _ us hl => match us, hl with | [_], _ => rfl
theorem f_read_words (T : Tp K mg) : ∃ fd, FunD K "read_words" "read_words" (defArgs s_read_words) (defBody s_read_words) (defScope s_read_words) [] [] (He.ga K "read_words") fd := T.c.def_ 27 (d := d_read_words) rfl
theorem b_read_words {f : Addr} {fd : FuncData} (F : FunD K "read_words" "read_words" (defArgs s_read_words) (defBody s_read_words) (defScope s_read_words) [] [] f fd) : Binds K fd ["form", "words"] [] := F.bindsN fun _ _ _ _ _ _ us hl => match us, hl with | [_, _], _ => rfl
theorem f_read_word (T : Tp K mg) : ∃ fd, FunD K "read_word" "read_word" (defArgs s_read_word) (defBody s_read_word) (defScope s_read_word) [] [] (He.ga K "read_word") fd := T.c.def_ 28 (d := d_read_word) rfl
theorem b_read_word {f : Addr} {fd : FuncData} (F : FunD K "read_word" "read_word" (defArgs s_read_word) (defBody s_read_word) (defScope s_read_word) [] [] f fd) : Binds K fd ["kind", "word"] [] := F.bindsN fun _ _ _ _ _ _ us hl => match us, hl with | [_, _], _ => rfl
theorem f_need_deed (T : Tp K mg) : ∃ fd, FunD K "need_deed" "need_deed" (defArgs s_need_deed) (defBody s_need_deed) (defScope s_need_deed) [] [] (He.ga K "need_deed") fd := T.c.def_ 29 (d := d_need_deed) rfl
theorem b_need_deed {f : Addr} {fd : FuncData} (F : FunD K "need_deed" "need_deed" (defArgs s_need_deed) (defBody s_need_deed) (defScope s_need_deed) [] [] f fd) : Binds K fd ["deed"] [] := F.bindsN fun _ _ _ _ _ _ us hl => match us, hl with | [_], _ => rfl
theorem f_with_deed (T : Tp K mg) : ∃ fd, FunD K "with_deed" "with_deed" (defArgs s_with_deed) (defBody s_with_deed) (defScope s_with_deed) [] [] (He.ga K "with_deed") fd := T.c.def_ 30 (d := d_with_deed) rfl
theorem b_with_deed {f : Addr} {fd : FuncData} (F : FunD K "with_deed" "with_deed" (defArgs s_with_deed) (defBody s_with_deed) (defScope s_with_deed) [] [] f fd) : Binds K fd ["web", "deed"] [] := F.bindsN fun _ _ _ _ _ _ us hl => match us, hl with | [_, _], _ => rfl
theorem f_write_deed (T : Tp K mg) : ∃ fd, FunD K "write_deed" "write_deed" (defArgs s_write_deed) (defBody s_write_deed) (defScope s_write_deed) [] [] (He.ga K "write_deed") fd := T.c.def_ 31 (d := d_write_deed) rfl
theorem b_write_deed {f : Addr} {fd : FuncData} (F : FunD K "write_deed" "write_deed" (defArgs s_write_deed) (defBody s_write_deed) (defScope s_write_deed) [] [] f fd) : Binds K fd ["deed"] [] := F.bindsN fun _ _ _ _ _ _ us hl => match us, hl with | [_], _ => rfl
theorem f_read_deed (T : Tp K mg) : ∃ fd, FunD K "read_deed" "read_deed" (defArgs s_read_deed) (defBody s_read_deed) (defScope s_read_deed) [] [] (He.ga K "read_deed") fd := T.c.def_ 32 (d := d_read_deed) rfl
theorem b_read_deed {f : Addr} {fd : FuncData} (F : FunD K "read_deed" "read_deed" (defArgs s_read_deed) (defBody s_read_deed) (defScope s_read_deed) [] [] f fd) : Binds K fd ["text"] [] := F.bindsN fun _ _ _ _ _ _ us hl => match us, hl with | [_], _ => rfl
theorem f_write_line (T : Tp K mg) : ∃ fd, FunD K "write_line" "write_line" (defArgs s_write_line) (defBody s_write_line) (defScope s_write_line) [] [] (He.ga K "write_line") fd := T.c.def_ 33 (d := d_write_line) rfl
theorem b_write_line {f : Addr} {fd : FuncData} (F : FunD K "write_line" "write_line" (defArgs s_write_line) (defBody s_write_line) (defScope s_write_line) [] [] f fd) : Binds K fd ["done"] [] := F.bindsN fun _ _ _ _ _ _ us hl => match us, hl with | [_], _ => rfl
theorem f_do_line (T : Tp K mg) : ∃ fd, FunD K "do_line" "do_line" (defArgs s_do_line) (defBody s_do_line) (defScope s_do_line) [] [] (He.ga K "do_line") fd := T.c.def_ 34 (d := d_do_line) rfl
theorem b_do_line {f : Addr} {fd : FuncData} (F : FunD K "do_line" "do_line" (defArgs s_do_line) (defBody s_do_line) (defScope s_do_line) [] [] f fd) : Binds K fd ["log", "line"] [] := F.bindsN fun _ _ _ _ _ _ us hl => match us, hl with | [_, _], _ => rfl
theorem f_Web_UinitU (T : Tp K mg) : ∃ fd, FunD K "__init__" "Web.__init__" (defArgs s_Web_UinitU) (defBody s_Web_UinitU) (defScope s_Web_UinitU) [(V.int 100 : V)] [] (He.ma K (He.ga K "Web") "__init__") fd := T.c.def_ 35 (d := d_Web_UinitU) rfl
theorem f_Web_with_by (T : Tp K mg) : ∃ fd, FunD K "with_by" "Web.with_by" (defArgs s_Web_with_by) (defBody s_Web_with_by) (defScope s_Web_with_by) [] [] (He.ma K (He.ga K "Web") "with_by") fd := T.c.def_ 36 (d := d_Web_with_by) rfl
theorem b_Web_with_by {f : Addr} {fd : FuncData} (F : FunD K "with_by" "Web.with_by" (defArgs s_Web_with_by) (defBody s_Web_with_by) (defScope s_Web_with_by) [] [] f fd) : Binds K fd ["self", "by"] [] := F.bindsN fun _ _ _ _ _ _ us hl => match us, hl with | [_, _], _ => rfl
theorem f_Web_with_moment (T : Tp K mg) : ∃ fd, FunD K "with_moment" "Web.with_moment" (defArgs s_Web_with_moment) (defBody s_Web_with_moment) (defScope s_Web_with_moment) [] [] (He.ma K (He.ga K "Web") "with_moment") fd := T.c.def_ 37 (d := d_Web_with_moment) rfl
theorem b_Web_with_moment {f : Addr} {fd : FuncData} (F : FunD K "with_moment" "Web.with_moment" (defArgs s_Web_with_moment) (defBody s_Web_with_moment) (defScope s_Web_with_moment) [] [] f fd) : Binds K fd ["self", "name"] [] := F.bindsN fun _ _ _ _ _ _ us hl => match us, hl with | [_, _], _ => rfl
theorem f_Web_with_span (T : Tp K mg) : ∃ fd, FunD K "with_span" "Web.with_span" (defArgs s_Web_with_span) (defBody s_Web_with_span) (defScope s_Web_with_span) [] [("late", V.int 0)] (He.ma K (He.ga K "Web") "with_span") fd := T.c.def_ 38 (d := d_Web_with_span) rfl
theorem f_Web_with_tie (T : Tp K mg) : ∃ fd, FunD K "with_tie" "Web.with_tie" (defArgs s_Web_with_tie) (defBody s_Web_with_tie) (defScope s_Web_with_tie) [] [("least", V.non), ("most", V.non)] (He.ma K (He.ga K "Web") "with_tie") fd := T.c.def_ 39 (d := d_Web_with_tie) rfl
theorem f_Web_without (T : Tp K mg) : ∃ fd, FunD K "without" "Web.without" (defArgs s_Web_without) (defBody s_Web_without) (defScope s_Web_without) [] [] (He.ma K (He.ga K "Web") "without") fd := T.c.def_ 40 (d := d_Web_without) rfl
theorem b_Web_without {f : Addr} {fd : FuncData} (F : FunD K "without" "Web.without" (defArgs s_Web_without) (defBody s_Web_without) (defScope s_Web_without) [] [] f fd) : Binds K fd ["self", "name"] [] := F.bindsN fun _ _ _ _ _ _ us hl => match us, hl with | [_, _], _ => rfl
theorem f_Web_without_tie (T : Tp K mg) : ∃ fd, FunD K "without_tie" "Web.without_tie" (defArgs s_Web_without_tie) (defBody s_Web_without_tie) (defScope s_Web_without_tie) [] [] (He.ma K (He.ga K "Web") "without_tie") fd := T.c.def_ 41 (d := d_Web_without_tie) rfl
theorem b_Web_without_tie {f : Addr} {fd : FuncData} (F : FunD K "without_tie" "Web.without_tie" (defArgs s_Web_without_tie) (defBody s_Web_without_tie) (defScope s_Web_without_tie) [] [] f fd) : Binds K fd ["self", "at"] [] := F.bindsN fun _ _ _ _ _ _ us hl => match us, hl with | [_, _], _ => rfl
theorem f_Web_moments (T : Tp K mg) : ∃ fd, FunD K "moments" "Web.moments" (defArgs s_Web_moments) (defBody s_Web_moments) (defScope s_Web_moments) [] [] (He.ma K (He.ga K "Web") "moments") fd := T.c.def_ 42 (d := d_Web_moments) rfl
theorem b_Web_moments {f : Addr} {fd : FuncData} (F : FunD K "moments" "Web.moments" (defArgs s_Web_moments) (defBody s_Web_moments) (defScope s_Web_moments) [] [] f fd) : Binds K fd ["self"] [] := F.bindsN fun _ _ _ _ _ _ us hl => match us, hl with | [_], _ => rfl
theorem f_Web_spans (T : Tp K mg) : ∃ fd, FunD K "spans" "Web.spans" (defArgs s_Web_spans) (defBody s_Web_spans) (defScope s_Web_spans) [] [] (He.ma K (He.ga K "Web") "spans") fd := T.c.def_ 43 (d := d_Web_spans) rfl
theorem b_Web_spans {f : Addr} {fd : FuncData} (F : FunD K "spans" "Web.spans" (defArgs s_Web_spans) (defBody s_Web_spans) (defScope s_Web_spans) [] [] f fd) : Binds K fd ["self"] [] := F.bindsN fun _ _ _ _ _ _ us hl => match us, hl with | [_], _ => rfl
theorem f_Web_ties (T : Tp K mg) : ∃ fd, FunD K "ties" "Web.ties" (defArgs s_Web_ties) (defBody s_Web_ties) (defScope s_Web_ties) [] [] (He.ma K (He.ga K "Web") "ties") fd := T.c.def_ 44 (d := d_Web_ties) rfl
theorem b_Web_ties {f : Addr} {fd : FuncData} (F : FunD K "ties" "Web.ties" (defArgs s_Web_ties) (defBody s_Web_ties) (defScope s_Web_ties) [] [] f fd) : Binds K fd ["self"] [] := F.bindsN fun _ _ _ _ _ _ us hl => match us, hl with | [_], _ => rfl
theorem f_Web_points (T : Tp K mg) : ∃ fd, FunD K "points" "Web.points" (defArgs s_Web_points) (defBody s_Web_points) (defScope s_Web_points) [] [] (He.ma K (He.ga K "Web") "points") fd := T.c.def_ 45 (d := d_Web_points) rfl
theorem b_Web_points {f : Addr} {fd : FuncData} (F : FunD K "points" "Web.points" (defArgs s_Web_points) (defBody s_Web_points) (defScope s_Web_points) [] [] f fd) : Binds K fd ["self"] [] := F.bindsN fun _ _ _ _ _ _ us hl => match us, hl with | [_], _ => rfl
theorem f_Web_UeqU (T : Tp K mg) : ∃ fd, FunD K "__eq__" "Web.__eq__" (defArgs s_Web_UeqU) (defBody s_Web_UeqU) (defScope s_Web_UeqU) [] [] (He.ma K (He.ga K "Web") "__eq__") fd := T.c.def_ 46 (d := d_Web_UeqU) rfl
theorem b_Web_UeqU {f : Addr} {fd : FuncData} (F : FunD K "__eq__" "Web.__eq__" (defArgs s_Web_UeqU) (defBody s_Web_UeqU) (defScope s_Web_UeqU) [] [] f fd) : Binds K fd ["self", "other"] [] := F.bindsN fun _ _ _ _ _ _ us hl => match us, hl with | [_, _], _ => rfl
theorem f_Web_UlenU (T : Tp K mg) : ∃ fd, FunD K "__len__" "Web.__len__" (defArgs s_Web_UlenU) (defBody s_Web_UlenU) (defScope s_Web_UlenU) [] [] (He.ma K (He.ga K "Web") "__len__") fd := T.c.def_ 47 (d := d_Web_UlenU) rfl
theorem b_Web_UlenU {f : Addr} {fd : FuncData} (F : FunD K "__len__" "Web.__len__" (defArgs s_Web_UlenU) (defBody s_Web_UlenU) (defScope s_Web_UlenU) [] [] f fd) : Binds K fd ["self"] [] := F.bindsN fun _ _ _ _ _ _ us hl => match us, hl with | [_], _ => rfl
theorem f_Web_UreprU (T : Tp K mg) : ∃ fd, FunD K "__repr__" "Web.__repr__" (defArgs s_Web_UreprU) (defBody s_Web_UreprU) (defScope s_Web_UreprU) [] [] (He.ma K (He.ga K "Web") "__repr__") fd := T.c.def_ 48 (d := d_Web_UreprU) rfl
theorem b_Web_UreprU {f : Addr} {fd : FuncData} (F : FunD K "__repr__" "Web.__repr__" (defArgs s_Web_UreprU) (defBody s_Web_UreprU) (defScope s_Web_UreprU) [] [] f fd) : Binds K fd ["self"] [] := F.bindsN fun _ _ _ _ _ _ us hl => match us, hl with | [_], _ => rfl
theorem f_woven (T : Tp K mg) : ∃ fd, FunD K "woven" "woven" (defArgs s_woven) (defBody s_woven) (defScope s_woven) [] [] (He.ga K "woven") fd := T.c.def_ 49 (d := d_woven) rfl
theorem b_woven {f : Addr} {fd : FuncData} (F : FunD K "woven" "woven" (defArgs s_woven) (defBody s_woven) (defScope s_woven) [] [] f fd) : Binds K fd ["by", "moments", "spans", "ties"] [] := F.bindsN fun _ _ _ _ _ _ us hl => match us, hl with | [_, _, _, _], _ => rfl
theorem f_is_begin (T : Tp K mg) : ∃ fd, FunD K "is_begin" "is_begin" (defArgs s_is_begin) (defBody s_is_begin) (defScope s_is_begin) [] [] (He.ga K "is_begin") fd := T.c.def_ 50 (d := d_is_begin) rfl
theorem b_is_begin {f : Addr} {fd : FuncData} (F : FunD K "is_begin" "is_begin" (defArgs s_is_begin) (defBody s_is_begin) (defScope s_is_begin) [] [] f fd) : Binds K fd ["web", "name"] [] := F.bindsN fun _ _ _ _ _ _ us hl => match us, hl with | [_, _], _ => rfl
theorem f_are_lengths (T : Tp K mg) : ∃ fd, FunD K "are_lengths" "are_lengths" (defArgs s_are_lengths) (defBody s_are_lengths) (defScope s_are_lengths) [] [] (He.ga K "are_lengths") fd := T.c.def_ 51 (d := d_are_lengths) rfl
theorem b_are_lengths {f : Addr} {fd : FuncData} (F : FunD K "are_lengths" "are_lengths" (defArgs s_are_lengths) (defBody s_are_lengths) (defScope s_are_lengths) [] [] f fd) : Binds K fd ["low", "high"] [] := F.bindsN fun _ _ _ _ _ _ us hl => match us, hl with | [_, _], _ => rfl
theorem f_is_lateness (T : Tp K mg) : ∃ fd, FunD K "is_lateness" "is_lateness" (defArgs s_is_lateness) (defBody s_is_lateness) (defScope s_is_lateness) [] [] (He.ga K "is_lateness") fd := T.c.def_ 52 (d := d_is_lateness) rfl
theorem b_is_lateness {f : Addr} {fd : FuncData} (F : FunD K "is_lateness" "is_lateness" (defArgs s_is_lateness) (defBody s_is_lateness) (defScope s_is_lateness) [] [] f fd) : Binds K fd ["late"] [] := F.bindsN fun _ _ _ _ _ _ us hl => match us, hl with | [_], _ => rfl
theorem f_is_used (T : Tp K mg) : ∃ fd, FunD K "is_used" "is_used" (defArgs s_is_used) (defBody s_is_used) (defScope s_is_used) [] [] (He.ga K "is_used") fd := T.c.def_ 53 (d := d_is_used) rfl
theorem b_is_used {f : Addr} {fd : FuncData} (F : FunD K "is_used" "is_used" (defArgs s_is_used) (defBody s_is_used) (defScope s_is_used) [] [] f fd) : Binds K fd ["web", "name"] [] := F.bindsN fun _ _ _ _ _ _ us hl => match us, hl with | [_, _], _ => rfl
theorem f_are_bounds (T : Tp K mg) : ∃ fd, FunD K "are_bounds" "are_bounds" (defArgs s_are_bounds) (defBody s_are_bounds) (defScope s_are_bounds) [] [] (He.ga K "are_bounds") fd := T.c.def_ 54 (d := d_are_bounds) rfl
theorem b_are_bounds {f : Addr} {fd : FuncData} (F : FunD K "are_bounds" "are_bounds" (defArgs s_are_bounds) (defBody s_are_bounds) (defScope s_are_bounds) [] [] f fd) : Binds K fd ["least", "most"] [] := F.bindsN fun _ _ _ _ _ _ us hl => match us, hl with | [_, _], _ => rfl
theorem f_need_free_name (T : Tp K mg) : ∃ fd, FunD K "need_free_name" "need_free_name" (defArgs s_need_free_name) (defBody s_need_free_name) (defScope s_need_free_name) [] [] (He.ga K "need_free_name") fd := T.c.def_ 55 (d := d_need_free_name) rfl
theorem b_need_free_name {f : Addr} {fd : FuncData} (F : FunD K "need_free_name" "need_free_name" (defArgs s_need_free_name) (defBody s_need_free_name) (defScope s_need_free_name) [] [] f fd) : Binds K fd ["web", "name"] [] := F.bindsN fun _ _ _ _ _ _ us hl => match us, hl with | [_, _], _ => rfl
theorem f_need_point (T : Tp K mg) : ∃ fd, FunD K "need_point" "need_point" (defArgs s_need_point) (defBody s_need_point) (defScope s_need_point) [] [] (He.ga K "need_point") fd := T.c.def_ 56 (d := d_need_point) rfl
theorem b_need_point {f : Addr} {fd : FuncData} (F : FunD K "need_point" "need_point" (defArgs s_need_point) (defBody s_need_point) (defScope s_need_point) [] [] f fd) : Binds K fd ["web", "name"] [] := F.bindsN fun _ _ _ _ _ _ us hl => match us, hl with | [_, _], _ => rfl
theorem f_Log_UinitU (T : Tp K mg) : ∃ fd, FunD K "__init__" "Log.__init__" (defArgs s_Log_UinitU) (defBody s_Log_UinitU) (defScope s_Log_UinitU) [(V.int 100 : V)] [] (He.ma K (He.ga K "Log") "__init__") fd := T.c.def_ 57 (d := d_Log_UinitU) rfl
theorem f_Log_do (T : Tp K mg) : ∃ fd, FunD K "do" "Log.do" (defArgs s_Log_do) (defBody s_Log_do) (defScope s_Log_do) [] [] (He.ma K (He.ga K "Log") "do") fd := T.c.def_ 58 (d := d_Log_do) rfl
theorem b_Log_do {f : Addr} {fd : FuncData} (F : FunD K "do" "Log.do" (defArgs s_Log_do) (defBody s_Log_do) (defScope s_Log_do) [] [] f fd) : Binds K fd ["self", "deed"] [] := F.bindsN fun _ _ _ _ _ _ us hl => match us, hl with | [_, _], _ => rfl
theorem f_Log_deal (T : Tp K mg) : ∃ fd, FunD K "deal" "Log.deal" (defArgs s_Log_deal) (defBody s_Log_deal) (defScope s_Log_deal) [] [] (He.ma K (He.ga K "Log") "deal") fd := T.c.def_ 59 (d := d_Log_deal) rfl
theorem b_Log_deal {f : Addr} {fd : FuncData} (F : FunD K "deal" "Log.deal" (defArgs s_Log_deal) (defBody s_Log_deal) (defScope s_Log_deal) [] [] f fd) : Binds K fd ["self", "deeds"] [] := F.bindsN fun _ _ _ _ _ _ us hl => match us, hl with | [_, _], _ => rfl
theorem f_Log_now (T : Tp K mg) : ∃ fd, FunD K "now" "Log.now" (defArgs s_Log_now) (defBody s_Log_now) (defScope s_Log_now) [] [] (He.ma K (He.ga K "Log") "now") fd := T.c.def_ 60 (d := d_Log_now) rfl
theorem b_Log_now {f : Addr} {fd : FuncData} (F : FunD K "now" "Log.now" (defArgs s_Log_now) (defBody s_Log_now) (defScope s_Log_now) [] [] f fd) : Binds K fd ["self"] [] := F.bindsN fun _ _ _ _ _ _ us hl => match us, hl with | [_], _ => rfl
theorem f_Log_deeds (T : Tp K mg) : ∃ fd, FunD K "deeds" "Log.deeds" (defArgs s_Log_deeds) (defBody s_Log_deeds) (defScope s_Log_deeds) [] [] (He.ma K (He.ga K "Log") "deeds") fd := T.c.def_ 61 (d := d_Log_deeds) rfl
theorem b_Log_deeds {f : Addr} {fd : FuncData} (F : FunD K "deeds" "Log.deeds" (defArgs s_Log_deeds) (defBody s_Log_deeds) (defScope s_Log_deeds) [] [] f fd) : Binds K fd ["self"] [] := F.bindsN fun _ _ _ _ _ _ us hl => match us, hl with | [_], _ => rfl
theorem f_Log_undo (T : Tp K mg) : ∃ fd, FunD K "undo" "Log.undo" (defArgs s_Log_undo) (defBody s_Log_undo) (defScope s_Log_undo) [] [] (He.ma K (He.ga K "Log") "undo") fd := T.c.def_ 62 (d := d_Log_undo) rfl
theorem b_Log_undo {f : Addr} {fd : FuncData} (F : FunD K "undo" "Log.undo" (defArgs s_Log_undo) (defBody s_Log_undo) (defScope s_Log_undo) [] [] f fd) : Binds K fd ["self"] [] := F.bindsN fun _ _ _ _ _ _ us hl => match us, hl with | [_], _ => rfl
theorem f_Log_redo (T : Tp K mg) : ∃ fd, FunD K "redo" "Log.redo" (defArgs s_Log_redo) (defBody s_Log_redo) (defScope s_Log_redo) [] [] (He.ma K (He.ga K "Log") "redo") fd := T.c.def_ 63 (d := d_Log_redo) rfl
theorem b_Log_redo {f : Addr} {fd : FuncData} (F : FunD K "redo" "Log.redo" (defArgs s_Log_redo) (defBody s_Log_redo) (defScope s_Log_redo) [] [] f fd) : Binds K fd ["self"] [] := F.bindsN fun _ _ _ _ _ _ us hl => match us, hl with | [_], _ => rfl
theorem f_Log_as_of (T : Tp K mg) : ∃ fd, FunD K "as_of" "Log.as_of" (defArgs s_Log_as_of) (defBody s_Log_as_of) (defScope s_Log_as_of) [] [] (He.ma K (He.ga K "Log") "as_of") fd := T.c.def_ 64 (d := d_Log_as_of) rfl
theorem b_Log_as_of {f : Addr} {fd : FuncData} (F : FunD K "as_of" "Log.as_of" (defArgs s_Log_as_of) (defBody s_Log_as_of) (defScope s_Log_as_of) [] [] f fd) : Binds K fd ["self", "count"] [] := F.bindsN fun _ _ _ _ _ _ us hl => match us, hl with | [_, _], _ => rfl
theorem f_Log_UlenU (T : Tp K mg) : ∃ fd, FunD K "__len__" "Log.__len__" (defArgs s_Log_UlenU) (defBody s_Log_UlenU) (defScope s_Log_UlenU) [] [] (He.ma K (He.ga K "Log") "__len__") fd := T.c.def_ 65 (d := d_Log_UlenU) rfl
theorem b_Log_UlenU {f : Addr} {fd : FuncData} (F : FunD K "__len__" "Log.__len__" (defArgs s_Log_UlenU) (defBody s_Log_UlenU) (defScope s_Log_UlenU) [] [] f fd) : Binds K fd ["self"] [] := F.bindsN fun _ _ _ _ _ _ us hl => match us, hl with | [_], _ => rfl
theorem f_do_whole (T : Tp K mg) : ∃ fd, FunD K "do_whole" "do_whole" (defArgs s_do_whole) (defBody s_do_whole) (defScope s_do_whole) [] [] (He.ga K "do_whole") fd := T.c.def_ 66 (d := d_do_whole) rfl
theorem b_do_whole {f : Addr} {fd : FuncData} (F : FunD K "do_whole" "do_whole" (defArgs s_do_whole) (defBody s_do_whole) (defScope s_do_whole) [] [] f fd) : Binds K fd ["log", "deeds"] [] := F.bindsN fun _ _ _ _ _ _ us hl => match us, hl with | [_, _], _ => rfl
theorem f_as_told (T : Tp K mg) : ∃ fd, FunD K "as_told" "as_told" (defArgs s_as_told) (defBody s_as_told) (defScope s_as_told) [] [] (He.ga K "as_told") fd := T.c.def_ 67 (d := d_as_told) rfl
theorem b_as_told {f : Addr} {fd : FuncData} (F : FunD K "as_told" "as_told" (defArgs s_as_told) (defBody s_as_told) (defScope s_as_told) [] [] f fd) : Binds K fd ["deeds"] [] := F.bindsN fun _ _ _ _ _ _ us hl => match us, hl with | [_], _ => rfl
theorem f_page (T : Tp K mg) : ∃ fd, FunD K "page" "page" (defArgs s_page) (defBody s_page) (defScope s_page) [] [] (He.ga K "page") fd := T.c.def_ 68 (d := d_page) rfl
theorem b_page {f : Addr} {fd : FuncData} (F : FunD K "page" "page" (defArgs s_page) (defBody s_page) (defScope s_page) [] [] f fd) : Binds K fd ["log"] [] := F.bindsN fun _ _ _ _ _ _ us hl => match us, hl with | [_], _ => rfl
theorem f_read_page (T : Tp K mg) : ∃ fd, FunD K "read_page" "read_page" (defArgs s_read_page) (defBody s_read_page) (defScope s_read_page) [] [] (He.ga K "read_page") fd := T.c.def_ 69 (d := d_read_page) rfl
theorem b_read_page {f : Addr} {fd : FuncData} (F : FunD K "read_page" "read_page" (defArgs s_read_page) (defBody s_read_page) (defScope s_read_page) [] [] f fd) : Binds K fd ["text"] [] := F.bindsN fun _ _ _ _ _ _ us hl => match us, hl with | [_], _ => rfl
theorem f_begun_log (T : Tp K mg) : ∃ fd, FunD K "begun_log" "begun_log" (defArgs s_begun_log) (defBody s_begun_log) (defScope s_begun_log) [] [] (He.ga K "begun_log") fd := T.c.def_ 70 (d := d_begun_log) rfl
theorem b_begun_log {f : Addr} {fd : FuncData} (F : FunD K "begun_log" "begun_log" (defArgs s_begun_log) (defBody s_begun_log) (defScope s_begun_log) [] [] f fd) : Binds K fd ["line"] [] := F.bindsN fun _ _ _ _ _ _ us hl => match us, hl with | [_], _ => rfl
theorem f__law_flow (T : Tp K mg) : ∃ fd, FunD K "_law_flow" "_law_flow" (defArgs s__law_flow) (defBody s__law_flow) (defScope s__law_flow) [] [] (He.ga K "_law_flow") fd := T.c.def_ 71 (d := d__law_flow) rfl
theorem b__law_flow {f : Addr} {fd : FuncData} (F : FunD K "_law_flow" "_law_flow" (defArgs s__law_flow) (defBody s__law_flow) (defScope s__law_flow) [] [] f fd) : Binds K fd ["_law_script"] [] := F.bindsN fun _ _ _ _ _ _ us hl => match us, hl with | [_], _ => rfl
theorem f__law_draw (T : Tp K mg) : ∃ fd, FunD K "_law_draw" "_law_draw" (defArgs s__law_draw) (defBody s__law_draw) (defScope s__law_draw) [] [] (He.ga K "_law_draw") fd := T.c.def_ 72 (d := d__law_draw) rfl
theorem b__law_draw {f : Addr} {fd : FuncData} (F : FunD K "_law_draw" "_law_draw" (defArgs s__law_draw) (defBody s__law_draw) (defScope s__law_draw) [] [] f fd) : Binds K fd ["_law_flow_here", "_law_size"] [] := F.bindsN fun _ _ _ _ _ _ us hl => match us, hl with | [_, _], _ => rfl
theorem f__law_pick (T : Tp K mg) : ∃ fd, FunD K "_law_pick" "_law_pick" (defArgs s__law_pick) (defBody s__law_pick) (defScope s__law_pick) [] [] (He.ga K "_law_pick") fd := T.c.def_ 73 (d := d__law_pick) rfl
theorem b__law_pick {f : Addr} {fd : FuncData} (F : FunD K "_law_pick" "_law_pick" (defArgs s__law_pick) (defBody s__law_pick) (defScope s__law_pick) [] [] f fd) : Binds K fd ["_law_flow_here", "_law_row"] [] := F.bindsN fun _ _ _ _ _ _ us hl => match us, hl with | [_, _], _ => rfl
theorem f__law_same (T : Tp K mg) : ∃ fd, FunD K "_law_same" "_law_same" (defArgs s__law_same) (defBody s__law_same) (defScope s__law_same) [] [] (He.ga K "_law_same") fd := T.c.def_ 74 (d := d__law_same) rfl
theorem b__law_same {f : Addr} {fd : FuncData} (F : FunD K "_law_same" "_law_same" (defArgs s__law_same) (defBody s__law_same) (defScope s__law_same) [] [] f fd) : Binds K fd ["_law_found", "_law_due"] [] := F.bindsN fun _ _ _ _ _ _ us hl => match us, hl with | [_, _], _ => rfl
theorem f__law_why (T : Tp K mg) : ∃ fd, FunD K "_law_why" "_law_why" (defArgs s__law_why) (defBody s__law_why) (defScope s__law_why) [] [] (He.ga K "_law_why") fd := T.c.def_ 75 (d := d__law_why) rfl
theorem b__law_why {f : Addr} {fd : FuncData} (F : FunD K "_law_why" "_law_why" (defArgs s__law_why) (defBody s__law_why) (defScope s__law_why) [] [] f fd) : Binds K fd ["_law_ask"] [] := F.bindsN fun _ _ _ _ _ _ us hl => match us, hl with | [_], _ => rfl
theorem f__law_model (T : Tp K mg) : ∃ fd, FunD K "_law_model" "_law_model" (defArgs s__law_model) (defBody s__law_model) (defScope s__law_model) [] [] (He.ga K "_law_model") fd := T.c.def_ 76 (d := d__law_model) rfl
theorem b__law_model {f : Addr} {fd : FuncData} (F : FunD K "_law_model" "_law_model" (defArgs s__law_model) (defBody s__law_model) (defScope s__law_model) [] [] f fd) : Binds K fd ["_law_last"] [] := F.bindsN fun _ _ _ _ _ _ us hl => match us, hl with | [_], _ => rfl
theorem f__law_points (T : Tp K mg) : ∃ fd, FunD K "_law_points" "_law_points" (defArgs s__law_points) (defBody s__law_points) (defScope s__law_points) [] [] (He.ga K "_law_points") fd := T.c.def_ 77 (d := d__law_points) rfl
theorem b__law_points {f : Addr} {fd : FuncData} (F : FunD K "_law_points" "_law_points" (defArgs s__law_points) (defBody s__law_points) (defScope s__law_points) [] [] f fd) : Binds K fd ["_law_m"] [] := F.bindsN fun _ _ _ _ _ _ us hl => match us, hl with | [_], _ => rfl
theorem f__law_bond (T : Tp K mg) : ∃ fd, FunD K "_law_bond" "_law_bond" (defArgs s__law_bond) (defBody s__law_bond) (defScope s__law_bond) [] [] (He.ga K "_law_bond") fd := T.c.def_ 78 (d := d__law_bond) rfl
theorem b__law_bond {f : Addr} {fd : FuncData} (F : FunD K "_law_bond" "_law_bond" (defArgs s__law_bond) (defBody s__law_bond) (defScope s__law_bond) [] [] f fd) : Binds K fd ["_law_flow_here", "_law_points_here", "_law_far"] [] := F.bindsN fun _ _ _ _ _ _ us hl => match us, hl with | [_, _, _], _ => rfl
theorem f__law_stands (T : Tp K mg) : ∃ fd, FunD K "_law_stands" "_law_stands" (defArgs s__law_stands) (defBody s__law_stands) (defScope s__law_stands) [] [] (He.ga K "_law_stands") fd := T.c.def_ 79 (d := d__law_stands) rfl
theorem b__law_stands {f : Addr} {fd : FuncData} (F : FunD K "_law_stands" "_law_stands" (defArgs s__law_stands) (defBody s__law_stands) (defScope s__law_stands) [] [] f fd) : Binds K fd ["_law_web", "_law_m"] [] := F.bindsN fun _ _ _ _ _ _ us hl => match us, hl with | [_, _], _ => rfl
theorem f__law_copy (T : Tp K mg) : ∃ fd, FunD K "_law_copy" "_law_copy" (defArgs s__law_copy) (defBody s__law_copy) (defScope s__law_copy) [] [] (He.ga K "_law_copy") fd := T.c.def_ 80 (d := d__law_copy) rfl
theorem b__law_copy {f : Addr} {fd : FuncData} (F : FunD K "_law_copy" "_law_copy" (defArgs s__law_copy) (defBody s__law_copy) (defScope s__law_copy) [] [] f fd) : Binds K fd ["_law_m"] [] := F.bindsN fun _ _ _ _ _ _ us hl => match us, hl with | [_], _ => rfl
theorem f__law_whole (T : Tp K mg) : ∃ fd, FunD K "_law_whole" "_law_whole" (defArgs s__law_whole) (defBody s__law_whole) (defScope s__law_whole) [] [] (He.ga K "_law_whole") fd := T.c.def_ 81 (d := d__law_whole) rfl
theorem b__law_whole {f : Addr} {fd : FuncData} (F : FunD K "_law_whole" "_law_whole" (defArgs s__law_whole) (defBody s__law_whole) (defScope s__law_whole) [] [] f fd) : Binds K fd ["_law_thing", "_law_low", "_law_high"] [] := F.bindsN fun _ _ _ _ _ _ us hl => match us, hl with | [_, _, _], _ => rfl
theorem f__law_tie_due (T : Tp K mg) : ∃ fd, FunD K "_law_tie_due" "_law_tie_due" (defArgs s__law_tie_due) (defBody s__law_tie_due) (defScope s__law_tie_due) [] [] (He.ga K "_law_tie_due") fd := T.c.def_ 82 (d := d__law_tie_due) rfl
theorem b__law_tie_due {f : Addr} {fd : FuncData} (F : FunD K "_law_tie_due" "_law_tie_due" (defArgs s__law_tie_due) (defBody s__law_tie_due) (defScope s__law_tie_due) [] [] f fd) : Binds K fd ["_law_m", "_law_one", "_law_other", "_law_bot", "_law_top"] [] := F.bindsN fun _ _ _ _ _ _ us hl => match us, hl with | [_, _, _, _, _], _ => rfl
theorem f__law_deed_line (T : Tp K mg) : ∃ fd, FunD K "_law_deed_line" "_law_deed_line" (defArgs s__law_deed_line) (defBody s__law_deed_line) (defScope s__law_deed_line) [] [] (He.ga K "_law_deed_line") fd := T.c.def_ 83 (d := d__law_deed_line) rfl
theorem b__law_deed_line {f : Addr} {fd : FuncData} (F : FunD K "_law_deed_line" "_law_deed_line" (defArgs s__law_deed_line) (defBody s__law_deed_line) (defScope s__law_deed_line) [] [] f fd) : Binds K fd ["_law_deed"] [] := F.bindsN fun _ _ _ _ _ _ us hl => match us, hl with | [_], _ => rfl
theorem f__law_name_good (T : Tp K mg) : ∃ fd, FunD K "_law_name_good" "_law_name_good" (defArgs s__law_name_good) (defBody s__law_name_good) (defScope s__law_name_good) [] [] (He.ga K "_law_name_good") fd := T.c.def_ 84 (d := d__law_name_good) rfl
theorem b__law_name_good {f : Addr} {fd : FuncData} (F : FunD K "_law_name_good" "_law_name_good" (defArgs s__law_name_good) (defBody s__law_name_good) (defScope s__law_name_good) [] [] f fd) : Binds K fd ["_law_name"] [] := F.bindsN fun _ _ _ _ _ _ us hl => match us, hl with | [_], _ => rfl
theorem f__law_new_due (T : Tp K mg) : ∃ fd, FunD K "_law_new_due" "_law_new_due" (defArgs s__law_new_due) (defBody s__law_new_due) (defScope s__law_new_due) [] [] (He.ga K "_law_new_due") fd := T.c.def_ 85 (d := d__law_new_due) rfl
theorem b__law_new_due {f : Addr} {fd : FuncData} (F : FunD K "_law_new_due" "_law_new_due" (defArgs s__law_new_due) (defBody s__law_new_due) (defScope s__law_new_due) [] [] f fd) : Binds K fd ["_law_m", "_law_name"] [] := F.bindsN fun _ _ _ _ _ _ us hl => match us, hl with | [_, _], _ => rfl
theorem f__law_span_word (T : Tp K mg) : ∃ fd, FunD K "_law_span_word" "_law_span_word" (defArgs s__law_span_word) (defBody s__law_span_word) (defScope s__law_span_word) [] [] (He.ga K "_law_span_word") fd := T.c.def_ 86 (d := d__law_span_word) rfl
theorem b__law_span_word {f : Addr} {fd : FuncData} (F : FunD K "_law_span_word" "_law_span_word" (defArgs s__law_span_word) (defBody s__law_span_word) (defScope s__law_span_word) [] [] f fd) : Binds K fd ["_law_m", "_law_deed"] [] := F.bindsN fun _ _ _ _ _ _ us hl => match us, hl with | [_, _], _ => rfl
theorem f__law_without_word (T : Tp K mg) : ∃ fd, FunD K "_law_without_word" "_law_without_word" (defArgs s__law_without_word) (defBody s__law_without_word) (defScope s__law_without_word) [] [] (He.ga K "_law_without_word") fd := T.c.def_ 87 (d := d__law_without_word) rfl
theorem b__law_without_word {f : Addr} {fd : FuncData} (F : FunD K "_law_without_word" "_law_without_word" (defArgs s__law_without_word) (defBody s__law_without_word) (defScope s__law_without_word) [] [] f fd) : Binds K fd ["_law_m", "_law_name"] [] := F.bindsN fun _ _ _ _ _ _ us hl => match us, hl with | [_, _], _ => rfl
theorem f__law_deed_word (T : Tp K mg) : ∃ fd, FunD K "_law_deed_word" "_law_deed_word" (defArgs s__law_deed_word) (defBody s__law_deed_word) (defScope s__law_deed_word) [] [] (He.ga K "_law_deed_word") fd := T.c.def_ 88 (d := d__law_deed_word) rfl
theorem b__law_deed_word {f : Addr} {fd : FuncData} (F : FunD K "_law_deed_word" "_law_deed_word" (defArgs s__law_deed_word) (defBody s__law_deed_word) (defScope s__law_deed_word) [] [] f fd) : Binds K fd ["_law_m", "_law_deed"] [] := F.bindsN fun _ _ _ _ _ _ us hl => match us, hl with | [_, _], _ => rfl
theorem f__law_deed_done (T : Tp K mg) : ∃ fd, FunD K "_law_deed_done" "_law_deed_done" (defArgs s__law_deed_done) (defBody s__law_deed_done) (defScope s__law_deed_done) [] [] (He.ga K "_law_deed_done") fd := T.c.def_ 89 (d := d__law_deed_done) rfl
theorem b__law_deed_done {f : Addr} {fd : FuncData} (F : FunD K "_law_deed_done" "_law_deed_done" (defArgs s__law_deed_done) (defBody s__law_deed_done) (defScope s__law_deed_done) [] [] f fd) : Binds K fd ["_law_m", "_law_deed"] [] := F.bindsN fun _ _ _ _ _ _ us hl => match us, hl with | [_, _], _ => rfl
theorem f__law_some_deed (T : Tp K mg) : ∃ fd, FunD K "_law_some_deed" "_law_some_deed" (defArgs s__law_some_deed) (defBody s__law_some_deed) (defScope s__law_some_deed) [] [] (He.ga K "_law_some_deed") fd := T.c.def_ 90 (d := d__law_some_deed) rfl
theorem b__law_some_deed {f : Addr} {fd : FuncData} (F : FunD K "_law_some_deed" "_law_some_deed" (defArgs s__law_some_deed) (defBody s__law_some_deed) (defScope s__law_some_deed) [] [] f fd) : Binds K fd ["_law_flow_here", "_law_m"] [] := F.bindsN fun _ _ _ _ _ _ us hl => match us, hl with | [_, _], _ => rfl
theorem f__law_log_stands (T : Tp K mg) : ∃ fd, FunD K "_law_log_stands" "_law_log_stands" (defArgs s__law_log_stands) (defBody s__law_log_stands) (defScope s__law_log_stands) [] [] (He.ga K "_law_log_stands") fd := T.c.def_ 91 (d := d__law_log_stands) rfl
theorem b__law_log_stands {f : Addr} {fd : FuncData} (F : FunD K "_law_log_stands" "_law_log_stands" (defArgs s__law_log_stands) (defBody s__law_log_stands) (defScope s__law_log_stands) [] [] f fd) : Binds K fd ["_law_log", "_law_stands_here"] [] := F.bindsN fun _ _ _ _ _ _ us hl => match us, hl with | [_, _], _ => rfl
theorem f__law_dealt (T : Tp K mg) : ∃ fd, FunD K "_law_dealt" "_law_dealt" (defArgs s__law_dealt) (defBody s__law_dealt) (defScope s__law_dealt) [] [] (He.ga K "_law_dealt") fd := T.c.def_ 92 (d := d__law_dealt) rfl
theorem b__law_dealt {f : Addr} {fd : FuncData} (F : FunD K "_law_dealt" "_law_dealt" (defArgs s__law_dealt) (defBody s__law_dealt) (defScope s__law_dealt) [] [] f fd) : Binds K fd ["_law_m", "_law_deeds"] [] := F.bindsN fun _ _ _ _ _ _ us hl => match us, hl with | [_, _], _ => rfl
theorem f__law_some_entry (T : Tp K mg) : ∃ fd, FunD K "_law_some_entry" "_law_some_entry" (defArgs s__law_some_entry) (defBody s__law_some_entry) (defScope s__law_some_entry) [] [] (He.ga K "_law_some_entry") fd := T.c.def_ 93 (d := d__law_some_entry) rfl
theorem b__law_some_entry {f : Addr} {fd : FuncData} (F : FunD K "_law_some_entry" "_law_some_entry" (defArgs s__law_some_entry) (defBody s__law_some_entry) (defScope s__law_some_entry) [] [] f fd) : Binds K fd ["_law_flow_here", "_law_m"] [] := F.bindsN fun _ _ _ _ _ _ us hl => match us, hl with | [_, _], _ => rfl
theorem f__law_entry_word (T : Tp K mg) : ∃ fd, FunD K "_law_entry_word" "_law_entry_word" (defArgs s__law_entry_word) (defBody s__law_entry_word) (defScope s__law_entry_word) [] [] (He.ga K "_law_entry_word") fd := T.c.def_ 94 (d := d__law_entry_word) rfl
theorem b__law_entry_word {f : Addr} {fd : FuncData} (F : FunD K "_law_entry_word" "_law_entry_word" (defArgs s__law_entry_word) (defBody s__law_entry_word) (defScope s__law_entry_word) [] [] f fd) : Binds K fd ["_law_m", "_law_entry"] [] := F.bindsN fun _ _ _ _ _ _ us hl => match us, hl with | [_, _], _ => rfl
theorem f__law_log_turn (T : Tp K mg) : ∃ fd, FunD K "_law_log_turn" "_law_log_turn" (defArgs s__law_log_turn) (defBody s__law_log_turn) (defScope s__law_log_turn) [] [] (He.ga K "_law_log_turn") fd := T.c.def_ 95 (d := d__law_log_turn) rfl
theorem b__law_log_turn {f : Addr} {fd : FuncData} (F : FunD K "_law_log_turn" "_law_log_turn" (defArgs s__law_log_turn) (defBody s__law_log_turn) (defScope s__law_log_turn) [] [] f fd) : Binds K fd ["_law_flow_here", "_law_log", "_law_stands_here", "_law_waits"] [] := F.bindsN fun _ _ _ _ _ _ us hl => match us, hl with | [_, _, _, _], _ => rfl
theorem f__law_entry_line (T : Tp K mg) : ∃ fd, FunD K "_law_entry_line" "_law_entry_line" (defArgs s__law_entry_line) (defBody s__law_entry_line) (defScope s__law_entry_line) [] [] (He.ga K "_law_entry_line") fd := T.c.def_ 96 (d := d__law_entry_line) rfl
theorem b__law_entry_line {f : Addr} {fd : FuncData} (F : FunD K "_law_entry_line" "_law_entry_line" (defArgs s__law_entry_line) (defBody s__law_entry_line) (defScope s__law_entry_line) [] [] f fd) : Binds K fd ["_law_entry"] [] := F.bindsN fun _ _ _ _ _ _ us hl => match us, hl with | [_], _ => rfl
theorem f__law_page (T : Tp K mg) : ∃ fd, FunD K "_law_page" "_law_page" (defArgs s__law_page) (defBody s__law_page) (defScope s__law_page) [] [] (He.ga K "_law_page") fd := T.c.def_ 97 (d := d__law_page) rfl
theorem b__law_page {f : Addr} {fd : FuncData} (F : FunD K "_law_page" "_law_page" (defArgs s__law_page) (defBody s__law_page) (defScope s__law_page) [] [] f fd) : Binds K fd ["_law_last", "_law_stands_here"] [] := F.bindsN fun _ _ _ _ _ _ us hl => match us, hl with | [_, _], _ => rfl
theorem f__law_told_right (T : Tp K mg) : ∃ fd, FunD K "_law_told_right" "_law_told_right" (defArgs s__law_told_right) (defBody s__law_told_right) (defScope s__law_told_right) [] [] (He.ga K "_law_told_right") fd := T.c.def_ 98 (d := d__law_told_right) rfl
theorem b__law_told_right {f : Addr} {fd : FuncData} (F : FunD K "_law_told_right" "_law_told_right" (defArgs s__law_told_right) (defBody s__law_told_right) (defScope s__law_told_right) [] [] f fd) : Binds K fd ["_law_found", "_law_entry"] [] := F.bindsN fun _ _ _ _ _ _ us hl => match us, hl with | [_, _], _ => rfl
theorem f_law (T : Tp K mg) : ∃ fd, FunD K "law" "law" (defArgs s_law) (defBody s_law) (defScope s_law) [] [] (He.ga K "law") fd := T.c.def_ 99 (d := d_law) rfl
theorem b_law {f : Addr} {fd : FuncData} (F : FunD K "law" "law" (defArgs s_law) (defBody s_law) (defScope s_law) [] [] f fd) : Binds K fd ["_law_script"] [] := F.bindsN fun _ _ _ _ _ _ us hl => match us, hl with | [_], _ => rfl
end
/-! the head -/
def loose0 : List PySem.Str := ["_wall", "__name__", "TideError", "BadBy", "BadName", "Taken", "Full", "BadLength", "BadLate", "BadTie", "Used", "BadText", "BadDeed", "Missing", "NoMoment", "NoPoint", "NoTie", "NoDeed", "RunFault", "NothingBack", "LETTERS", "LONGEST_NAME", "is_number", "is_whole", "is_one_of", "is_name", "FIGURES", "MOST_FIGURES", "NONE", "is_figures"]
def loose1 : List PySem.Str := ["read_number", "read_bound", "read_name", "written", "READERS", "read_words", "read_word", "FORMS", "need_deed", "with_deed", "write_deed", "read_deed", "write_line", "do_line", "BY", "START", "MOST_BY", "MOST_MOMENTS", "MOST_SPANS", "MOST_TIES", "MOST_LENGTH", "MOST_LATE", "MOST_BOUND", "Web", "woven", "is_begin", "are_lengths", "is_lateness", "is_used", "are_bounds"]
def loose2 : List PySem.Str := ["need_free_name", "need_point", "Log", "do_whole", "as_told", "page", "read_page", "begun_log", "_law_flow", "_law_draw", "_law_pick", "_law_same", "_law_why", "_law_model", "_law_points", "_law_bond", "_law_stands", "_law_copy", "_law_whole", "_law_tie_due", "_law_deed_line", "_law_name_good", "_law_new_due", "_law_span_word", "_law_without_word", "_law_deed_word", "_law_deed_done", "_law_some_deed", "_law_log_stands", "_law_dealt"]
def loose3 : List PySem.Str := ["_law_some_entry", "_law_entry_word", "_law_log_turn", "_law_entry_line", "_law_page", "_law_told_right"]
def loose : List PySem.Str := loose0 ++ loose1 ++ loose2 ++ loose3
abbrev R : PySem.W.OpenRow := PySem.W.OpenLaw.row PySem.Challenge.rw_tidewaiter_k63_pages_there_and_back
def tf : List He.Defn := [("law", none), ("_law_log_turn", none)]
def wand0 : List PySem.Str := ["is_number", "is_whole", "is_one_of", "is_name", "is_figures", "read_number", "read_bound", "read_name", "written", "read_words", "read_word", "need_deed", "with_deed", "write_deed", "read_deed", "write_line", "do_line", "woven", "is_begin", "are_lengths", "is_lateness", "is_used", "are_bounds", "need_free_name", "need_point", "do_whole", "as_told", "page"]
def wand1 : List PySem.Str := ["read_page", "begun_log", "_law_flow", "_law_draw", "_law_pick", "_law_same", "_law_why", "_law_model", "_law_points", "_law_bond", "_law_stands", "_law_copy", "_law_whole", "_law_tie_due", "_law_deed_line", "_law_name_good", "_law_new_due", "_law_span_word", "_law_without_word", "_law_deed_word", "_law_deed_done", "_law_some_deed", "_law_log_stands", "_law_dealt", "_law_some_entry", "_law_entry_word", "_law_log_turn", "_law_entry_line"]
def wand2 : List PySem.Str := ["_law_page", "_law_told_right", "law"]
def want3 : List PySem.Str := ["Web", "Log", "FORMS", "READERS", "TideError", "BadBy", "BadName", "Taken", "Full", "BadLength", "BadLate", "BadTie", "Used", "BadText", "BadDeed", "Missing", "NoMoment", "NoPoint", "NoTie", "NoDeed", "RunFault", "NothingBack"]
def want : Want := (want3, wand0 ++ wand1 ++ wand2, [])
def tb : List He.Tab := [((fun K => He.ga K "FORMS"), ["by", "moment", "span", "tie", "without", "untie"]), ((fun K => He.ga K "READERS"), ["number", "bound", "name"])]
abbrev hk : PySem.W.Hook := hookW 3 want fa fn tf ex tb
def ob (s : PySem.W.SharedT) : AlW := obsW 3 want fa fn tf ex tb (HandSHeadRun.getT s)
theorem ob_eq (s : PySem.W.SharedT) : ob s = hk.obs s.abs := obsW_eq (HandSHeadRun.getT_eq s)
abbrev lawAt : Nat := 103
end Tw

set_option maxHeartbeats 0
namespace Tw
open PySem PySem.Spec PyProof.Rows L2
/-! as TwRun3, where the defs want two looks -/
abbrev Rn (w : World) : Prop := HandSHeadRun.RunEq R (PySem.W.view R.prog [lawAt]) hk ob 30000 loose w
abbrev wB (w : World) (b : Bool) : World := w.withFollow "special-get-raises" b
noncomputable abbrev en (w : World) (os : OsState) : Option PySem.W.SharedT := HandSHeadRun.endF (HandSHeadRun.stepQ (HandSHeadRun.denQ HandSHeadRun.tabQ) R.prog w) 30000 R.prog w os
abbrev L1 (w : World) (os : OsState) : Prop := (en w os).map (fun s => (HandSHeadRun.looksF R.prog (PySem.W.boot_heap w.params) s.abs, HandSHeadRun.seenQ (PySem.W.view R.prog [lawAt]) loose (importedModules R.prog.main.body) (fun s => PySem.W.xlAt (PySem.W.view R.prog [lawAt]) [] s && PySem.W.recOk R.records s) s.abs)) = some (true, PySem.W.openGood (PySem.W.view R.prog [lawAt]) loose)
abbrev frS (s : PySem.W.SharedT) : PySem.W.Frag := frZ (HandSHeadRun.getT s) want 3
abbrev LD (w : World) (os : OsState) : Prop := (en w os).map (fun s => (fn.all fun d => d.ok (frS s), fn.map fun d => He.fnW (frS s) d.at_)) = some (true, fn.map He.DefD.val)
abbrev LF (w : World) (os : OsState) : Prop := (en w os).map (fun s => (fa.all fun f => f.ok (frS s), (ex (frS s) && He.tabsB (HandSHeadRun.getT s) tf (frS s)), tb.map fun t => He.dicW (frS s) (t.1 (frS s)))) = some (true, true, tb.map fun t => some (He.keysIn w.params t.2))
abbrev L2' (w : World) (os : OsState) : Prop := (en w os).map ob = some (hk.val w)
theorem facts2 (w : World) (os : OsState) (h1 : LD w os) (h2 : LF w os) : L2' w os := by
  unfold LD at h1
  unfold LF at h2
  unfold L2'
  generalize en w os = o at h1 h2 ⊢
  cases o with
  | none => cases h1
  | some s =>
    have e1 := Option.some.inj h1
    have e2 := Option.some.inj h2
    have a1 : (fn.all fun d => d.ok (frS s)) = true := congrArg Prod.fst e1
    have a2 : (fn.map fun d => He.fnW (frS s) d.at_) = fn.map He.DefD.val := congrArg Prod.snd e1
    have b1 : (fa.all fun f => f.ok (frS s)) = true := congrArg Prod.fst e2
    have b2 : (ex (frS s) && He.tabsB (HandSHeadRun.getT s) tf (frS s)) = true := congrArg (fun z => z.2.1) e2
    have b3 : (tb.map fun t => He.dicW (frS s) (t.1 (frS s))) = tb.map fun t => some (He.keysIn w.params t.2) := congrArg (fun z => z.2.2) e2
    show some (((((fa.all fun f => f.ok (frS s)) && fn.all fun d => d.ok (frS s)), fn.map fun d => He.fnW (frS s) d.at_), (ex (frS s) && He.tabsB (HandSHeadRun.getT s) tf (frS s))), tb.map fun t => He.dicW (frS s) (t.1 (frS s))) = some (((true, fn.map He.DefD.val), true), tb.map fun t => some (He.keysIn w.params t.2))
    rw [a1, a2, b1, b2, b3]
    rfl
abbrev LDp (f : List He.DefD) (w : World) (os : OsState) : Prop := (en w os).map (fun s => (f.all fun d => d.ok (frS s), f.map fun d => He.fnW (frS s) d.at_)) = some (true, f.map He.DefD.val)
theorem ld_join (w : World) (os : OsState) (h : Nat) (a : LDp (fn.take h) w os) (b : LDp (fn.drop h) w os) : LD w os := by
  unfold LDp at a b
  unfold LD
  generalize en w os = o at a b ⊢
  cases o with
  | none => cases a
  | some s =>
    have a := Option.some.inj a
    have b := Option.some.inj b
    have a1 : ((fn.take h).all fun d => d.ok (frS s)) = true := congrArg Prod.fst a
    have b1 : ((fn.drop h).all fun d => d.ok (frS s)) = true := congrArg Prod.fst b
    have a2 : ((fn.take h).map fun d => He.fnW (frS s) d.at_) = (fn.take h).map He.DefD.val := congrArg Prod.snd a
    have b2 : ((fn.drop h).map fun d => He.fnW (frS s) d.at_) = (fn.drop h).map He.DefD.val := congrArg Prod.snd b
    have e1 : (fn.all fun d => d.ok (frS s)) = true := by
      rw [← List.take_append_drop h fn, List.all_append, a1, b1]
      rfl
    have e2 : (fn.map fun d => He.fnW (frS s) d.at_) = fn.map He.DefD.val := by
      rw [← List.take_append_drop h fn, List.map_append, List.map_append, a2, b2]
    show some ((fn.all fun d => d.ok (frS s)), fn.map fun d => He.fnW (frS s) d.at_) = some (true, fn.map He.DefD.val)
    rw [e1, e2]
theorem no1 (w : World) (os : OsState) : L1 (wB w false) os := by kernel_rfl
theorem no2 (w : World) (os : OsState) : LDp (fn.take 46) (wB w false) os := by kernel_rfl
theorem no2b (w : World) (os : OsState) : LDp (fn.drop 46) (wB w false) os := by kernel_rfl
theorem no3 (w : World) (os : OsState) : LF (wB w false) os := by kernel_rfl
theorem yes1 (w : World) (os : OsState) : L1 (wB w true) os := by kernel_rfl
theorem yes2 (w : World) (os : OsState) : LDp (fn.take 46) (wB w true) os := by kernel_rfl
theorem yes2b (w : World) (os : OsState) : LDp (fn.drop 46) (wB w true) os := by kernel_rfl
theorem yes3 (w : World) (os : OsState) : LF (wB w true) os := by kernel_rfl
theorem run (w : World) : Rn w := PySem.W.byRow2 "special-get-raises" (P := Rn) (fun w os => three_of (no1 w os) (facts2 _ _ (ld_join _ _ 46 (no2 w os) (no2b w os)) (no3 w os))) (fun w os => three_of (yes1 w os) (facts2 _ _ (ld_join _ _ 46 (yes2 w os) (yes2b w os)) (yes3 w os))) w
end Tw

set_option maxHeartbeats 4000000
/-! comprehensions whose block changes nothing -/
namespace Tw
open PySem PySem.Spec PyProof.Rows L2
section
variable {α β : Type} {J : It} {G : Hp → Prop} {Y : Nat → Hp → V → Hp → Prop} {g : TG} {tt : TT} {te : TE} {vs : List Nat} {σ : L2.St} {H0 : Hp} {D : Addr} {Qd : Hp → Prop}
/-- [elt for target in source if test]: as the source's items as data, f the item's own (none: left out), S what a told item is -/
theorem lc_pure (as : List α) (w : Walk J as.length G Y) (f : α → Option β) (S : Hp → V → β → Prop) (Sk : ∀ {H H' v b}, Kt H H' → S H v b → S H' v b) (nD : H0 D = none) (hn : as.length ≤ 1000) (hG : ∀ H, Same H0 H → G H)
    (hs : ∀ i a x H H', as[i]? = some a → Same H0 H → Y i H x H' → ∀ (Good : V → Hp → Prop) (Bad : Hp → Prop), (∀ y c H4, f a = some c → Same H H4 → S H4 y c → Good y H4) → (f a = none → ∀ H3, Same H H3 → Bad H3) →
      g x (wipe σ vs) H' fun σ2 H2 => wipe σ2 vs = wipe σ vs ∧ tt σ2 H2 fun b H3 => if b = true then te σ2 H3 Good else Bad H3)
    (hd : ∀ H acc, Same H0 H → H D = some (.lst acc) → Paired (S H) acc (as.filterMap f) → Qd H) :
    ∃ W : Nat → Nat → Hp → Prop, (∃ m, W 0 m (upd H0 D (.lst []))) ∧ ∀ i m H, W i m H →
      (J.stop i H ∧ Qd H) ∨ (J.go i H ∧ ∃ Nx : Hp → Prop, (∀ H', Nx H' → ∃ m', m' < m ∧ W (i + 1) m' H') ∧ ∀ x H', J.yld i H x H' → g x (wipe σ vs) H' fun σ2 H2 => wipe σ2 vs = wipe σ vs ∧ tt σ2 H2 fun b H3 =>
        if b = true then te σ2 H3 fun y H4 => ∃ acc, H4 D = some (.lst acc) ∧ acc.length < sizeLine ∧ Nx (upd H4 D (.lst (acc ++ [y]))) else Nx H3) := by
  refine lc_it w (fun i H => Same H0 H ∧ ∃ acc, H D = some (.lst acc) ∧ Paired (S H) acc ((as.take i).filterMap f)) ⟨same_upd nD, [], upd_same, .nil⟩ (fun _ H _ h => hG H h.1) ?_ ?_
  · rintro i x H H' hi ⟨s1, acc, d1, p1⟩ y
    obtain ⟨a, ea⟩ : ∃ a, as[i]? = some a := ⟨as[i], by simp [hi]⟩
    have e2 : (as.take (i + 1)).filterMap f = (as.take i).filterMap f ++ (f a).toList := by
      rw [List.take_add_one, ea, List.filterMap_append]
      cases h : f a <;> simp [List.filterMap, h]
    refine hs i a x H H' ea s1 y _ _ (fun z c H4 ec s4 hz => ⟨acc, s4 _ _ d1, ?_, ?_, acc ++ [z], upd_same, ?_⟩) (fun en H3 s3 => ⟨s1.trans s3, acc, s3 _ _ d1, ?_⟩)
    · have hl := Paired.length p1
      have h2 : ((as.take i).filterMap f).length ≤ as.length := Nat.le_trans (List.length_filterMap_le _ _) (by rw [List.length_take]; omega)
      exact small1000 (by omega)
    · intro b o e
      rw [upd_ne (ne_of_none e nD)]
      exact s4 _ _ (s1 b o e)
    · rw [e2, ec]
      have kk : Kt H4 (upd H4 D (.lst (acc ++ [z]))) := Kt.upd fun xs e => by
        rw [s4 _ _ d1] at e
        cases e
      exact Paired.snoc (Paired.mono (fun v b h => Sk kk (Sk (Kt.of s4) h)) p1) (Sk kk hz)
    · rw [e2, en]
      show Paired _ _ (_ ++ [])
      rw [List.append_nil]
      exact Paired.mono (fun v b h => Sk (Kt.of s3) h) p1
  · rintro H ⟨s1, acc, d1, p1⟩
    rw [List.take_of_length_le (Nat.le_refl _)] at p1
    exact hd H acc s1 d1 p1
end
theorem walk_listN {K : PySem.W.Frag} {a : Addr} {xs : List V} {n : Nat} (h : xs.length = n) : Walk (Itl K a) n (fun H => SqL K H a xs) (YAt xs) := h ▸ walk_list
theorem walk_tupN {K : PySem.W.Frag} {a : Addr} {xs : List V} {n : Nat} (h : xs.length = n) : Walk (Itt K a) n (fun H => SqT K H a xs) (YAt xs) := h ▸ walk_tup
theorem sl_tupK {X : Cx} {K : PySem.W.Frag} (h : X.K = K) : SlR X (rSlT K) := h ▸ sl_tup
theorem sl_listK {X : Cx} {K : PySem.W.Frag} (h : X.K = K) : SlR X (rSlL K) := h ▸ sl_list
theorem flat_bls (l : List Bool) : (l.map V.bl).all flatV = true := by
  rw [List.all_map]
  exact List.all_eq_true.mpr fun _ _ => rfl
/-- a told item that is plain -/
def SV {β : Type} (enc : β → V) : Hp → V → β → Prop := fun _ v b => v = enc b
theorem paired_enc {β : Type} {enc : β → V} {H : Hp} : ∀ {acc : List V} {bs : List β}, Paired (SV enc H) acc bs → acc = bs.map enc
  | _, _, .nil => rfl
  | _, _, .cons h t => by
    rw [List.map_cons, ← paired_enc t, ← show _ = _ from h]
/-- a told item that is a tuple -/
def SR {β : Type} (row : β → List V) : Hp → V → β → Prop := fun H v b => ∃ t, v = .ref t ∧ H t = some (.tup (row b))
theorem sr_k {β : Type} {row : β → List V} {H H' : Hp} {v : V} {b : β} (k : Kt H H') (h : SR row H v b) : SR row H' v b := by
  obtain ⟨t, e, ht⟩ := h
  exact ⟨t, e, k _ _ ht⟩
theorem paired_rows {β : Type} {row : β → List V} {H : Hp} : ∀ {acc : List V} {bs : List β}, Paired (SR row H) acc bs → Rows H acc (bs.map row)
  | _, _, .nil => .nil
  | _, _, .cons h t => .cons h (paired_rows t)
theorem rows_at {β : Type} {row : β → List V} {H : Hp} {xs : List V} {bs : List β} {i : Nat} {x : V} {b : β} (h : Rows H xs (bs.map row)) (e : xs[i]? = some x) (eb : bs[i]? = some b) : ∃ t, x = .ref t ∧ H t = some (.tup (row b)) := by
  obtain ⟨t, r, h1, h2, h3⟩ := h.at e
  rw [List.getElem?_map, eb] at h2
  cases h2
  exact ⟨t, h1, h3⟩
end Tw

set_option maxHeartbeats 4000000
/-! values as data: lists of tuples of plain values compared -/
namespace Tw
open PySem PySem.Spec PyProof.Rows L2
def pd : V → PyData
  | .bl b => .bool b
  | .int i => .int i
  | .str z => .str z
  | _ => .none
/-- a plain value that can be laid -/
def okV : V → Bool
  | .non => true
  | .bl _ => true
  | .int _ => true
  | .str z => PyData.canLay0 (.str z)
  | _ => false
theorem dp_ok {K : PySem.W.Frag} {H : Hp} {v : V} (h : okV v = true) : Dp K H v (pd v) := by
  cases v with
  | non => exact .non
  | bl b => exact .bl b
  | int i => exact .int i
  | str z => exact .str z
  | byt b => cases h
  | flt b => cases h
  | ref b => cases h
  | ty b => cases h
theorem can_ok {v : V} (h : okV v = true) : (pd v).canLay0 = true := by
  cases v with
  | non => rfl
  | bl b => rfl
  | int i => rfl
  | str z => exact h
  | byt b => cases h
  | flt b => cases h
  | ref b => cases h
  | ty b => cases h
theorem depth_pd (v : V) : (pd v).depth = 0 := by
  cases v <;> rfl
theorem dp_all {K : PySem.W.Frag} {H : Hp} : ∀ {r : List V}, r.all okV = true → DpAll K H r (r.map pd)
  | [], _ => .nil
  | v :: r, h => by
    rw [List.all_cons, Bool.and_eq_true] at h
    exact .cons (dp_ok h.1) (dp_all h.2)
theorem can_all : ∀ {r : List V}, r.all okV = true → PyData.canLayAll0 (r.map pd) = true
  | [], _ => rfl
  | v :: r, h => by
    rw [List.all_cons, Bool.and_eq_true] at h
    show (PyData.canLay0 (pd v) && PyData.canLayAll0 (r.map pd)) = true
    rw [can_ok h.1, can_all h.2]
    rfl
theorem depth_all : ∀ (r : List V), PyData.depthAll (r.map pd) = 0
  | [] => rfl
  | v :: r => by
    show max (PyData.depth (pd v)) (PyData.depthAll (r.map pd)) = 0
    rw [depth_pd, depth_all r]
    rfl
def pdR (r : List V) : PyData := .tuple (r.map pd)
theorem dp_rows {K : PySem.W.Frag} {H : Hp} : ∀ {xs : List V} {rs : List (List V)}, Rows H xs rs → (∀ r ∈ rs, r.all okV = true) → DpAll K H xs (rs.map pdR)
  | _, _, .nil, _ => .nil
  | _, _, .cons ⟨t, e, ht⟩ q, h => by
    subst e
    exact .cons (.tup (.inl (.inl ht)) (dp_all (h _ List.mem_cons_self))) (dp_rows q fun r hr => h r (List.mem_cons_of_mem _ hr))
theorem can_rows : ∀ {rs : List (List V)}, (∀ r ∈ rs, r.all okV = true) → PyData.canLayAll0 (rs.map pdR) = true
  | [], _ => rfl
  | r :: rs, h => by
    show (PyData.canLayAll0 (r.map pd) && PyData.canLayAll0 (rs.map pdR)) = true
    rw [can_all (h _ List.mem_cons_self), can_rows fun r hr => h r (List.mem_cons_of_mem _ hr)]
    rfl
theorem depth_rows : ∀ (rs : List (List V)), PyData.depthAll (rs.map pdR) ≤ 1
  | [] => Nat.zero_le _
  | r :: rs => by
    show max (PyData.depthAll (r.map pd) + 1) (PyData.depthAll (rs.map pdR)) ≤ 1
    rw [depth_all]
    exact Nat.max_le.mpr ⟨Nat.le_refl _, depth_rows rs⟩
theorem shaped_rows {rs : List (List V)} (h : ∀ r ∈ rs, r.all okV = true) : SeqAt.shaped (.list (rs.map pdR)) = true := by
  unfold SeqAt.shaped
  rw [Bool.and_eq_true]
  refine ⟨can_rows h, decide_eq_true ?_⟩
  show PyData.depthAll (rs.map pdR) + 1 ≤ 64
  have := depth_rows rs
  omega
/-- rows != [] -/
theorem ne_empty {K : PySem.W.Frag} {H : Hp} {a b : Addr} {xs : List V} {rs : List (List V)} {Q : VK} (ha : H a = some (.lst xs)) (hb : H b = some (.lst [])) (R : Rows H xs rs) (h : ∀ r ∈ rs, r.all okV = true) (q : Q (.bl (!rs.isEmpty)) H) : rNeD K (.ref a) (.ref b) H Q := by
  refine ⟨.list (rs.map pdR), .list [], .lst (.inl (.inl ha)) (dp_rows R h), .lst (.inl (.inl hb)) .nil, shaped_rows h, by decide, ?_⟩
  cases rs with
  | nil => exact q
  | cons r rs => exact q
end Tw

set_option maxHeartbeats 4000000
/-! own exceptions in the air: none, one or two fields beside the word -/
namespace Tw
open PySem PySem.Spec PyProof.Rows L2
section
variable {P : Program} {w : World} {K : PySem.W.Frag} {mg : Str → Option Value} {base : Heap} {k : Nat} {f C : Addr} {fd : FuncData} {ps : List Str} {sp : Sp} {x m : Str}
/-- where nothing may be raised, the raising promise is a plain one -/
theorem fn_calm (F : FnOk P w K mg base (L2.CX P w) k f fd ps sp) : FnOk P w K mg base CX0 k f fd ps (fun vs H Q _ => sp vs H Q E0) :=
  ⟨fun vs H Q E h => F.len vs H Q E0 h, fun A outer s H args us vs Q E hr e0 hb r h => codeAny_mono (F.run A outer s H args us vs Q E0 hr e0 hb r h) fun r s' hq => by
    cases r with
    | error e =>
      obtain ⟨_, _, _, _, _, _, _, _, _, _, _, _, hE⟩ := hq
      exact False.elim hE
    | ok fl =>
      cases fl with
      | ret u => exact hq
      | next => exact False.elim hq
      | brk => exact False.elim hq
      | cont => exact False.elim hq⟩
theorem MetX.calm (c : MetX P w K mg base k C m sp) : Met P w K mg base k C m (fun vs H Q _ => sp vs H Q E0) :=
  let ⟨f, fd, ps, cls, me, F, b⟩ := c.ex
  ⟨f, fd, ps, [], cls, me, fn_calm F, b, .nil⟩
theorem CalX.calm (c : CalX P w K mg base k x sp) : Cal P w K mg base k x (fun vs H Q _ => sp vs H Q E0) :=
  let ⟨f, fd, ps, F, here, kept, b⟩ := c.ex
  ⟨f, fd, ps, [], fn_calm F, here, kept, b, .nil⟩
end
def OutF (H : Hp) (E : XK) (C : Addr) (fs : List (Str × V)) : Prop := ∀ (d : Addr) (H' : Hp), Same H H' → H d = none → H' d = some (.xd fs) → E (.ref C) (some d) H'
theorem OutF.same {H H1 : Hp} {E : XK} {C : Addr} {fs : List (Str × V)} (o : OutF H E C fs) (s : Same H H1) : OutF H1 E C fs := fun d H' s' n e => o d H' (s.trans s') (s.free n) e
abbrev Out0 (H : Hp) (E : XK) (C : Addr) (w : Str) : Prop := OutF H E C [(("word" : Str), .str w)]
abbrev Out (H : Hp) (E : XK) (C : Addr) (w f : Str) (v : V) : Prop := OutF H E C [(f, v), (("word" : Str), .str w)]
abbrev Out2 (H : Hp) (E : XK) (C : Addr) (w f g : Str) (v u : V) : Prop := OutF H E C [(g, u), (f, v), (("word" : Str), .str w)]
theorem Out.same {H H1 : Hp} {E : XK} {C : Addr} {w f : Str} {v : V} (o : Out H E C w f v) (s : Same H H1) : Out H1 E C w f v := OutF.same o s
def sp_miss (b : Bs) (K : PySem.W.Frag) : Sp := fun vs H Q _ => ∃ (a C : Addr) (u y : Str), vs = [.ref a, .str u, .str y] ∧ OxC b K C ∧ PySem.W.findIn K (.ref C) "word" = some none ∧ H a = some (exo a C none) ∧ u.length ≤ 100 ∧ y.length ≤ 100 ∧
  ∀ d, H d = none → d ≠ a → Q .non (upd (upd H d (exd d [(("word" : Str), .str u)])) a (exo a C (some d)))
/-- what an own exception's making leaves -/
def Made (H : Hp) (a C : Addr) (fs : List (Str × V)) (Q : VK) : Prop := ∀ (d : Addr) (H2 : Hp), H d = none → d ≠ a → (∀ b, b ≠ a → b ≠ d → H2 b = H b) → H2 a = some (exo a C (some d)) → H2 d = some (exd d fs) → Q .non H2
def sp_exc0 (K : PySem.W.Frag) (C : Addr) (u : Str) : Sp := fun vs H Q _ => ∃ (a : Addr), vs = [.ref a] ∧ H a = some (exo a C none) ∧ Made H a C [(("word" : Str), .str u)] Q
def sp_exc1 (K : PySem.W.Frag) (C : Addr) (u f : Str) : Sp := fun vs H Q _ => ∃ (a : Addr) (v : V), vs = [.ref a, v] ∧ H a = some (exo a C none) ∧ Made H a C [(f, v), (("word" : Str), .str u)] Q
def sp_exc2 (K : PySem.W.Frag) (C : Addr) (u f g : Str) : Sp := fun vs H Q _ => ∃ (a : Addr) (v z : V), vs = [.ref a, v, z] ∧ H a = some (exo a C none) ∧ Made H a C [(g, z), (f, v), (("word" : Str), .str u)] Q
theorem made_out {C a : Addr} {fs : List (Str × V)} {H : Hp} {E : XK} (h : OutF H E C fs) (na : H a = none) : Made (upd H a (exo a C none)) a C fs
    (fun x H2 => x = .non ∧ ∃ (d : Addr) (fs : List (Str × V)), H2 a = some (exo a C (some d)) ∧ H2 d = some (exd d fs) ∧ H d = none ∧ E (.ref C) (some d) (upd (del H2 a) d (.xd fs))) := by
  intro d H2 nd da k e1 e2
  have nd2 : H d = none := by
    rw [upd_ne da] at nd
    exact nd
  refine ⟨rfl, d, _, e1, e2, nd2, h d _ (fun b o hb => ?_) nd2 upd_same⟩
  have h1 : b ≠ a := ne_of_none hb na
  have h2 : b ≠ d := ne_of_none hb nd2
  rw [upd_ne h2, del_ne h1, k b h1 h2, upd_ne h1]
  exact hb
section
variable {K : PySem.W.Frag} {C : Addr} {u f g : Str} {v z : V} {H : Hp} {E : XK}
theorem mk_out0 (h : Out0 H E C u) : ([] : List V).length ≤ 1000 ∧ ∀ a, H a = none → sp_exc0 K C u (.ref a :: ([] ++ [])) (upd H a (exo a C none))
    (fun x H2 => x = .non ∧ ∃ (d : Addr) (fs : List (Str × V)), H2 a = some (exo a C (some d)) ∧ H2 d = some (exd d fs) ∧ H d = none ∧ E (.ref C) (some d) (upd (del H2 a) d (.xd fs))) (fun _ _ _ => False) :=
  ⟨by show 0 ≤ 1000; decide, fun a na => ⟨a, rfl, upd_same, made_out h na⟩⟩
theorem mk_out (h : Out H E C u f v) : ([v] : List V).length ≤ 1000 ∧ ∀ a, H a = none → sp_exc1 K C u f (.ref a :: ([v] ++ [])) (upd H a (exo a C none))
    (fun x H2 => x = .non ∧ ∃ (d : Addr) (fs : List (Str × V)), H2 a = some (exo a C (some d)) ∧ H2 d = some (exd d fs) ∧ H d = none ∧ E (.ref C) (some d) (upd (del H2 a) d (.xd fs))) (fun _ _ _ => False) :=
  ⟨by show 1 ≤ 1000; decide, fun a na => ⟨a, v, rfl, upd_same, made_out h na⟩⟩
theorem mk_out2 (h : Out2 H E C u f g v z) : ([v, z] : List V).length ≤ 1000 ∧ ∀ a, H a = none → sp_exc2 K C u f g (.ref a :: ([v, z] ++ [])) (upd H a (exo a C none))
    (fun x H2 => x = .non ∧ ∃ (d : Addr) (fs : List (Str × V)), H2 a = some (exo a C (some d)) ∧ H2 d = some (exd d fs) ∧ H d = none ∧ E (.ref C) (some d) (upd (del H2 a) d (.xd fs))) (fun _ _ _ => False) :=
  ⟨by show 2 ≤ 1000; decide, fun a na => ⟨a, v, z, rfl, upd_same, made_out h na⟩⟩
end
end Tw

set_option maxHeartbeats 4000000
/-! a lambda without parameters that a name keeps: made and stored, handed on by its name, called by its name -/
namespace Tw
open PySem PySem.Spec PyProof.Rows L2
open LamX (ExtN Tabs TabB LamS CodeO)
/-- the object of the lambda made in X -/
abbrev lamAt (X : Cx) (ps : Arguments) (b : Expr) (sc : Scope) (c' : Addr) (pm ct : Value) : Obj := PySem.W.kla_obj "<lambda>" (X.env.qual ++ "<lambda>") ps b sc (cloFrom X.env.cells sc.names []) pm c' ct
/-- the lambda at f is known in X -/
structure KeptL (X : Cx) (ps : Arguments) (b : Expr) (sc : Scope) (f c' : Addr) : Prop where
  ex : ∃ pm ct, (f, lamAt X ps b sc c' pm ct) ∈ X.pn
section
variable {X : Cx} {pins : List (Addr × Obj)} {σ : L2.St} {H : Hp} {s : Shared} {ps : Arguments} {b : Expr} {sc : Scope} {f c' : Addr}
theorem pin_lam {pm ct : Value} (I : Inv X pins σ H s) (h1 : s.heap.get? f = some (lamAt X ps b sc c' pm ct)) (h2 : H f = none) (h3 : f ∉ frs X.stack) : Inv X ((f, lamAt X ps b sc c' pm ct) :: pins) σ H s := by
  have nl : f ≠ X.env.locals := by
    rintro rfl
    obtain ⟨m, ⟨o, es, ep, e1, e2, _⟩, _⟩ := I.loc
    rw [h1] at e1
    cases e1
    cases e2
  have nf : f ∉ X.fs := by
    intro hf
    refine h3 ?_
    rcases I.ok.stk with e | ⟨e, fr⟩
    · rw [e]
      exact hf
    · rw [e]
      show f ∈ List.filterMap (·.frame) (X.env :: X.outer)
      rw [List.filterMap_cons, fr]
      exact List.mem_cons_of_mem _ hf
  refine { I with pin := fun p hp => ?_ }
  rcases List.mem_append.mp hp with h | h
  · exact I.pin p (List.mem_append_left _ h)
  · rcases List.mem_cons.mp h with e | h
    · subst e
      exact ⟨h1, h2, nl, nf, fun v z => by cases z⟩
    · exact I.pin p (List.mem_append_right _ h)
theorem KeptL.at (k : KeptL X ps b sc f c') (I : Inv X pins σ H s) : ∃ pm ct, s.heap.get? f = some (lamAt X ps b sc c' pm ct) ∧ H f = none ∧ f ∉ frs X.stack := by
  obtain ⟨pm, ct, hm⟩ := k.ex
  obtain ⟨h1, h2, h3, h4, _⟩ := I.pin _ (List.mem_append_left _ hm)
  refine ⟨pm, ct, h1, h2, fun hf => ?_⟩
  rcases List.mem_cons.mp (I.stkSub _ hf) with e | e
  · exact h3 e
  · exact h4 e
end
section
variable {X : Cx} {ps : Arguments} {b : Expr} {sc : Scope} {T : List (Addr × Str)} {c P : Addr} {i : Nat} {x : Str} {rest : List Stmt} {u : Addr → Addr → List (Addr × Obj) → TS} {lpos pos' pos : Pos}
def tLamS (T : List (Addr × Str)) (q : Str) (i : Nat) (u : Addr → Addr → List (Addr × Obj) → TS) : TS := fun D σ H => Tabs T H ∧ ∀ (H1 : Hp) (f c' : Addr) (pn : List (Addr × Obj)), ExtN H H1 → Tabs T H1 → H1 c' = some (CodeO c' q) → u f c' pn D (σ.set i (some (.ref f))) H1
/-- x = lambda: b, and what follows -/
theorem pss_lam (hN : X.N.Nodup) (hi : X.N[i]? = some x) (hx : Loc X.env.scope x) (TB : TabB X.base X.mg c P) (hcode : X.env.code = .ref c) (hm : (P, X.env.qual ++ "<lambda>") ∈ T) (hu : ∀ p ∈ T, p.1 = P → p.2 = X.env.qual ++ "<lambda>") (L : LamS X.env.scope sc)
    (hrest : ∀ (f c' : Addr) (pn : List (Addr × Obj)), KeptL (X.tr pn X.xe) ps b sc f c' → PSs (X.tr pn X.xe) rest (u f c' pn)) (hdef : defaultsOf ps X.env = ([], []) := by rfl)
    (hs : swapsWith (.Lambda ps b sc lpos) (some (.Name x pos')) pos.line X.env = pure false := by rfl) (hf : X.fn x = true ∨ X.env.scope.names.lookup x = some .local := by first | exact .inl rfl | exact .inr rfl | assumption) :
    PSs X (.Assign [.Name x pos'] (.Lambda ps b sc lpos) pos :: rest) (tLamS T (X.env.qual ++ "<lambda>") i u) := by
  constructor
  intro pins s σ H D I h
  refine wpAny_execs_cons (wpAny_Assign_Name ?_ hs)
  refine LamX.lam_make2 I TB hcode hm hu h.1 hdef (L.has I.ok) ?_
  intro f c' pm ct H1 s1 I1 e1 t1 g1 g2 g3 g4
  have J := pin_lam I1 g1 g2 g3
  refine store_ok J hN hi hx (v := .ref f) rfl (fun s2 J2 => ?_) hf
  have K2 := J2.toTry X.xe
  have kp : KeptL (X.tr (X.pn ++ ((f, lamAt X ps b sc c' pm ct) :: pins)) X.xe) ps b sc f c' := ⟨pm, ct, List.mem_append_right _ List.mem_cons_self⟩
  have back : ∀ {pn' : List (Addr × Obj)} {σ' : L2.St} {H' : Hp} {s' : Shared}, Inv (X.tr (X.pn ++ ((f, lamAt X ps b sc c' pm ct) :: pins)) X.xe) pn' σ' H' s' → Inv X pins σ' H' s' := fun {pn' σ' H' s'} J' => by
    have Z := J'.ofTry (X := X) I.ok
    refine { Z with pin := fun p hp => Z.pin p ?_ }
    rcases List.mem_append.mp hp with h | h
    · exact List.mem_append_left _ h
    · exact List.mem_append_right _ (List.mem_cons_of_mem _ h)
  refine thn ((hrest f c' _ kp).run [] s2 _ H1 D K2 (h.2 H1 f c' _ e1 t1 g4)) fun fl s3 hq => ?_
  cases fl with
  | next =>
    obtain ⟨σ', H', J', q⟩ := hq
    exact ⟨σ', H', back J', q⟩
  | brk =>
    obtain ⟨σ', H', J', q⟩ := hq
    exact ⟨σ', H', back J', q⟩
  | cont =>
    obtain ⟨σ', H', J', q⟩ := hq
    exact ⟨σ', H', back J', q⟩
  | ret w =>
    obtain ⟨v, σ', H', J', r, q⟩ := hq
    exact ⟨v, σ', H', back J', r, q⟩
end
section
variable {X : Cx} {ps : Arguments} {b : Expr} {sc : Scope} {c P : Addr} {i : Nat} {x : Str} {rest : List Stmt} {u : Addr → Addr → List (Addr × Obj) → TS} {lpos pos' pos : Pos}
theorem pss_lam1 (hN : X.N.Nodup) (hi : X.N[i]? = some x) (hx : Loc X.env.scope x) (TB : TabB X.base X.mg c P) (hcode : X.env.code = .ref c) (L : LamS X.env.scope sc)
    (hrest : ∀ (f c' : Addr) (pn : List (Addr × Obj)), KeptL (X.tr pn X.xe) ps b sc f c' → PSs (X.tr pn X.xe) rest (u f c' pn)) (hdef : defaultsOf ps X.env = ([], []) := by rfl)
    (hs : swapsWith (.Lambda ps b sc lpos) (some (.Name x pos')) pos.line X.env = pure false := by rfl) (hf : X.fn x = true ∨ X.env.scope.names.lookup x = some .local := by first | exact .inl rfl | exact .inr rfl | assumption) :
    PSs X (.Assign [.Name x pos'] (.Lambda ps b sc lpos) pos :: rest) (tLamS [(P, X.env.qual ++ "<lambda>")] (X.env.qual ++ "<lambda>") i u) :=
  pss_lam hN hi hx TB hcode List.mem_cons_self (fun p hp _ => by rw [List.mem_singleton.mp hp]) L hrest hdef hs hf
end
section
variable {X : Cx} {ps : Arguments} {b : Expr} {sc : Scope} {f c' : Addr} {i k : Nat} {v : Str} {p p2 pos : Pos}
def tHand (q : Str) (f c' : Addr) (i : Nat) (TT : (XK → Hp → VK → Prop) → Hp → VK → Prop) (t : XK → TE) : TE := fun σ H Q => σ[i]? = some (some (.ref f)) ∧ H c' = some (CodeO c' q) ∧ TT (fun E H' Q' => t E σ H' Q') H Q
/-- g(v), v a name that keeps a lambda -/
theorem pe_hand {TT : (XK → Hp → VK → Prop) → Hp → VK → Prop} {x a : Str} {g : Addr} {ag : Arguments} {bg : List Stmt} {sg : Scope} {dV kV doc pm cdv ct oc : Value} {an od : Option Addr} {osl : Array (Option Value)} {Ng : List Str} {t : XK → TE}
    (hg : Gl X x) (hm : X.mg x = some (.ref g)) (hk : PySem.W.keepIn X.K (.ref g) = true) (lk : X.K.lookup g = some ⟨oc, od, .func (PySem.W.fnOf x x ag bg sg dV kV doc pm an cdv ct), osl⟩) (hcg : PySem.W.codeIn X.K cdv x = true)
    (hb : L2.Binds X.K (PySem.W.fnOf x x ag bg sg dV kV doc pm an cdv ct) [a] []) (Sg : FnScope Ng [a] sg) (hNg : Ng[0]? = some a) (hva : Vis sg a) (hG : LamX.GivesTo X Ng x sg g cdv bg a (X.env.qual ++ "<lambda>") TT)
    (kp : KeptL X ps b sc f c') (hN : X.N[i]? = some v) (hv : Vis X.env.scope v) (hr : Room (k + 2) X.A) (L : LamS X.env.scope sc)
    (hbind : ∀ (q : Str) (cl : List (Str × Addr)) (pm cv ctv : Value), bindArgs (PySem.W.kla_fn "<lambda>" q ps b sc cl pm cv ctv) ⟨[], []⟩ = pure [])
    (hbody : ∀ (A : Around) (outer : List Env) (s : Shared) (H : Hp) (E : XK), Room k (A.deeper (LamX.lamEnv X sc s.heap.objs.size f c')) → PE (LamX.lamCx X A outer s H E sc f c') b (t E))
    (hdb : (x == ("__debug__" : Str)) = false := by decide) (hd : (a == ("__debug__" : Str)) = false := by decide) (hcd : (a == ("__classdict__" : Str)) = false := by decide)
    (hd2 : (v == ("__debug__" : Str)) = false := by decide) (hcd2 : (v == ("__classdict__" : Str)) = false := by decide) :
    PE X (.Call (.Name x p) [.Name v p2] [] pos) (tHand (X.env.qual ++ "<lambda>") f c' i TT t) := by
  constructor
  intro pins s σ H Q I ⟨w1, w2, w3⟩
  have ev := (pe_var (pos := p2) hN hv hd2 hcd2).run pins s σ H (fun z H1 => z = .ref f ∧ H1 = H) I ⟨.ref f, w1, rfl, rfl⟩
  refine wpAny_Call_Name_kw (ld_glob I hg hm (PySem.W.callWith_K (h₀ := X.base) I.ok.mod.kin hk ?_ (by rfl) (by rfl)) hdb)
  show wpAny _ _ (spliced ((false, eval (.Name v p2) X.env) :: backTo pos (starEach [] X.env))) _ _ s
  refine Calls.spliced_cons (thn ev ?_)
  rintro val s1 ⟨z, H1, I1, rz, ez, eH⟩
  subst ez eH
  obtain rfl : val = Value.ref f := rz
  refine Calls.spliced_nil ⟨I1.kIn, ?_⟩
  obtain ⟨pm1, ct1, g1, g2, g3⟩ := kp.at I1
  refine wpAny_call (codeAny_mono (LamX.run_ofS (CX := C8.CX0) (Q := Q) (E := C8.E0) (N := Ng) (us := [.ref f]) (vs := [.ref f]) lk hcg Sg hr I1.env0 (hb s1 [.ref f] I1.kIn rfl) (.cons rfl .nil) rfl ?_) ?_)
  · intro hr'
    have act := hG f c' s1 H1 Q (fun E H' Q' => t E σ H' Q') (fun W pn xe E p1 p2 tk hW => LamX.pe_act (i := 0) I1 L g1 g2 g3 (hbind _ _ _ _ _) tk hW hr' (fun A outer s H hr2 => hbody A outer s H E hr2) hNg hva hd hcd) w2 w3
    obtain ⟨t', ht, hq⟩ := act
    exact ⟨t', ht.nox, hq⟩
  · intro r s2 hq
    match r, hq with
    | .error _, hq => exact (show False from hq).elim
    | .ok (.ret _), hq => exact I1.after hq
    | .ok .next, hq => exact False.elim hq
    | .ok .brk, hq => exact False.elim hq
    | .ok .cont, hq => exact False.elim hq
def tAct (q : Str) (f c' : Addr) (i : Nat) (t : TE) : TE := fun σ H Q => σ[i]? = some (some (.ref f)) ∧ H c' = some (CodeO c' q) ∧ t σ H Q
/-- v(), v a name that keeps a lambda; nothing is raised -/
theorem pe_act0 {t : TE} (kp : KeptL X ps b sc f c') (hN : X.N[i]? = some v) (hv : Vis X.env.scope v) (hr : Room (k + 1) X.A) (L : LamS X.env.scope sc)
    (hbind : ∀ (q : Str) (cl : List (Str × Addr)) (pm cv ctv : Value), bindArgs (PySem.W.kla_fn "<lambda>" q ps b sc cl pm cv ctv) ⟨[], []⟩ = pure [])
    (hbody : ∀ (A : Around) (outer : List Env) (s : Shared) (H : Hp), Room k (A.deeper (LamX.lamEnv X sc s.heap.objs.size f c')) → PE (LamX.lamCx X A outer s H E0 sc f c') b t)
    (hd2 : (v == ("__debug__" : Str)) = false := by decide) (hcd2 : (v == ("__classdict__" : Str)) = false := by decide) : PE X (.Call (.Name v p) [] [] pos) (tAct (X.env.qual ++ "<lambda>") f c' i t) := by
  constructor
  intro pins s σ H Q I ⟨w1, w2, w3⟩
  have ev := (pe_var (pos := p) hN hv hd2 hcd2).run pins s σ H (fun z H1 => z = .ref f ∧ H1 = H) I ⟨.ref f, w1, rfl, rfl⟩
  refine wpAny_Call_Name_kw (thn ev ?_)
  rintro val s1 ⟨z, H1, I1, rz, ez, eH⟩
  subst ez eH
  obtain rfl : val = Value.ref f := rz
  obtain ⟨pm1, ct1, g1, g2, g3⟩ := kp.at I1
  obtain ⟨⟨oc, vs, tk, k1, k2, k3⟩, _, _⟩ := I1.hok c' _ w2
  refine PySem.W.callWith_F0 ⟨_, _, _, _, g1⟩ (wpAny_call (codeAny_mono (R := CR (L2.CX X.prog X.w) X.stack X.prog X.w H1 s1 Q E0) ?_ ?_))
  · refine PySem.W.kla_callFunE hr.depth g1 rfl L.co L.gen rfl ⟨c', oc, vs, tk, rfl, k1, k2, k3⟩ ?_
    rw [show ([] : List Value) ++ [] = [] from rfl, hbind]
    refine wpAny_pure (wpAny_newFunctionEnv (fun y hy => (L.own y hy).2) (fun y hy => absurd hy (by simp)) (fun h1 n1 n2 => ⟨I1.nolimit.fresh _ n2, ?_⟩) L.kind)
    have kk : ∀ a o, s1.heap.get? a = some o → h1.get? a = some o := fun a o e => n2.extBut a o (Nat.ne_of_lt (Heap.lt_size e)) (Heap.get?_push_of_some _ e)
    have J := LamX.lam_start2 (E := E0) (f := f) (c' := c') (tk := s1.toks + ([] : List (Str × Value)).length) I1 L I1.env0 hr.hd Un.refl n1 kk
    refine PySem.W.kla_codeExpr (wpAny_mono ((hbody _ _ s1 H1 (hr.deeper _)).run [] _ _ H1 Q J w3) ?_ fun e s' hq => hq)
    rintro r s' ⟨z, H', J', rz, q⟩
    exact ⟨z, H', J'.os, J'.bare, J'.base, J'.hok, rz, q⟩
  · intro r s2 hq
    match r, hq with
    | .error _, hq =>
      obtain ⟨_, _, _, _, _, _, _, _, _, _, _, _, hE⟩ := hq
      exact False.elim hE
    | .ok (.ret _), hq => exact I1.after hq
    | .ok .next, hq => exact False.elim hq
    | .ok .brk, hq => exact False.elim hq
    | .ok .cont, hq => exact False.elim hq
end
end Tw

set_option maxHeartbeats 400000
/-! a lambda without parameters that is handed to a def and called there: what it raises finds the def's names as they stood at the call -/
namespace Tw
open PySem PySem.Spec PyProof.Rows L2
open LamX (ExtN Tabs TabB LamS CodeO)
/-- the def's context, entered at s with the heap H -/
abbrev askCx (X : Cx) (Ng : List Str) (x : Str) (sg : Scope) (g : Addr) (cdg : Value) (s : Shared) (H : Hp) : Cx := cxOf C8.CX0 X.prog X.w X.K X.mg X.base Ng x sg g cdg X.A X.stack s H C8.E0
/-- what the def makes of the lambda's reading tl: TT tells -/
def GivesS (X : Cx) (Ng : List Str) (x : Str) (sg : Scope) (g : Addr) (cdg : Value) (bg : List Stmt) (a : Str) (q : Str) (TT : (XK → Hp → VK → Prop) → Hp → VK → Prop) : Prop :=
  ∀ (f c' : Addr) (s : Shared) (H : Hp) (Q : VK) (tl : XK → Hp → VK → Prop),
    (∀ (W : WX) (pn : List (Addr × Obj)) (xe : Value → Shared → Prop) (E : XK) (p1 p2 : Pos), Takes ((askCx X Ng x sg g cdg s H).tr pn xe) W →
      PE ((askCx X Ng x sg g cdg s H).tr pn xe) (.Call (.Name a p1) [] [] p2) (fun σ1 H1 Q1 => σ1[0]? = some (some (.ref f)) ∧ H1 c' = some (CodeO c' q) ∧ (∀ cls d H2, E cls d H2 → W cls d σ1 H2) ∧ tl E H1 Q1)) →
    H c' = some (CodeO c' q) → TT tl H Q →
    ∃ t, PSs (askCx X Ng x sg g cdg s H).nox bg t ∧ t { nx := fun _ H' => Q .non H', rt := Q } (L2.start Ng [.ref f]) H
section
variable {X : Cx} {pins : List (Addr × Obj)} {σ : L2.St} {H : Hp} {s : Shared} {Ng : List Str} {x a : Str} {sg sc : Scope} {g f c' : Addr} {cdg pm ct : Value} {ps : Arguments} {b : Expr} {k : Nat} {pn : List (Addr × Obj)} {xe : Value → Shared → Prop} {W : WX} {E : XK} {tb : TE} {p1 p2 : Pos}
/-- a(), a the parameter that holds the lambda -/
theorem ask_run (I : Inv X pins σ H s) (L : LamS X.env.scope sc) (here : s.heap.get? f = some (lamAt X ps b sc c' pm ct)) (untold : H f = none) (nofr : f ∉ frs X.stack)
    (bind : bindArgs (PySem.W.kla_fn "<lambda>" (X.env.qual ++ "<lambda>") ps b sc (cloFrom X.env.cells sc.names []) pm (.ref c') ct) ⟨[], []⟩ = pure []) (tk : Takes ((askCx X Ng x sg g cdg s H).tr pn xe) W) (room : Room (k + 1) (X.A.deeper (envOfC x sg s.heap.objs.size g cdg)))
    (body : ∀ (A : Around) (outer : List Env) (s : Shared) (H : Hp), Room k (A.deeper (LamX.lamEnv X sc s.heap.objs.size f c')) → PE (LamX.lamCx X A outer s H E sc f c') b tb)
    (hN : Ng[0]? = some a) (hv : Vis sg a) (hd : (a == ("__debug__" : Str)) = false) (hcd : (a == ("__classdict__" : Str)) = false) :
    PE ((askCx X Ng x sg g cdg s H).tr pn xe) (.Call (.Name a p1) [] [] p2) (fun σ1 H1 Q1 => σ1[0]? = some (some (.ref f)) ∧ H1 c' = some (CodeO c' (X.env.qual ++ "<lambda>")) ∧ (∀ cls d H2, E cls d H2 → W cls d σ1 H2) ∧ tb σ H1 Q1) := by
  constructor
  rintro pins1 s1 σ1 H1 Q1 J ⟨slot, known, wish, w⟩
  have look := (pe_var (X := (askCx X Ng x sg g cdg s H).tr pn xe) (pos := p1) hN hv hd hcd).run pins1 s1 σ1 H1 (fun z H2 => z = .ref f ∧ H2 = H1) J ⟨.ref f, slot, rfl, rfl⟩
  refine wpAny_Call_Name_kw (thn look ?_)
  rintro u s2 ⟨z, H2, J2, rz, ez, eH⟩
  subst ez
  rw [eH] at J2
  obtain rfl : u = Value.ref f := rz
  have stays : s2.heap.get? f = some (lamAt X ps b sc c' pm ct) := J2.base.keep f _ here untold nofr (fun z => nomatch (show f ∈ ([] : List Addr) from z))
  have since : Un (frs X.stack) [] H H1 s.heap s2.heap := J2.base
  obtain ⟨⟨oc, vs, n, k1, k2, k3⟩, _, _⟩ := J2.hok c' _ known
  have ran : codeAny (model X.prog X.w) (X.A.deeper (envOfC x sg s.heap.objs.size g cdg)) (.call (.ref f) ⟨[], []⟩) (CR (L2.CX X.prog X.w) (envOfC x sg s.heap.objs.size g cdg :: X.stack) X.prog X.w H1 s2 Q1 E) s2 := by
    refine PySem.W.kla_callFunE room.depth stays rfl L.co L.gen rfl ⟨c', oc, vs, n, rfl, k1, k2, k3⟩ ?_
    rw [bind]
    refine wpAny_pure (wpAny_newFunctionEnv (fun y hy => (L.own y hy).2) (fun y hy => absurd hy List.not_mem_nil) (fun h1 named new => ⟨J2.nolimit.fresh _ new, ?_⟩) L.kind)
    have kept : ∀ z o, s2.heap.get? z = some o → h1.get? z = some o := fun z o e => new.extBut z o (Nat.ne_of_lt (Heap.lt_size e)) (Heap.get?_push_of_some _ e)
    have J3 := LamX.lam_start2 (E := E) (f := f) (c' := c') (tk := s2.toks + ([] : List (Str × Value)).length) I L J2.env0 room.hd since named kept
    refine PySem.W.kla_codeExpr (wpAny_mono ((body _ _ s2 H1 (room.deeper _)).run [] _ _ H1 Q1 J3 w) ?_ fun e s' hq => hq)
    rintro v s3 ⟨z, H3, J4, rv, q⟩
    exact ⟨z, H3, J4.os, J4.bare, J4.base, J4.hok, rv, q⟩
  refine PySem.W.callWith_F0 ⟨_, _, _, _, stays⟩ (wpAny_call (codeAny_mono ran ?_))
  rintro (e | fl) s3 hq
  · exact tk e s3 (XE.of_call J2 wish hq)
  · cases fl with
    | ret u => exact J2.after hq
    | next => exact False.elim hq
    | brk => exact False.elim hq
    | cont => exact False.elim hq
end
section
variable {X : Cx} {T : List (Addr × Str)} {TT : (XK → Hp → VK → Prop) → Hp → VK → Prop} {x a : Str} {g c Pt : Addr} {k : Nat} {pg ps : Arguments} {bg : List Stmt} {sg sc : Scope} {dV kV doc pm cdv ct oc : Value} {an od : Option Addr} {osl : Array (Option Value)} {Ng : List Str} {b : Expr} {t : XK → TE} {p lpos pos : Pos}
/-- x(lambda: b) -/
theorem pe_lamS (hg : Gl X x) (hm : X.mg x = some (.ref g)) (hk : PySem.W.keepIn X.K (.ref g) = true) (lk : X.K.lookup g = some ⟨oc, od, .func (PySem.W.fnOf x x pg bg sg dV kV doc pm an cdv ct), osl⟩) (hcg : PySem.W.codeIn X.K cdv x = true)
    (hb : L2.Binds X.K (PySem.W.fnOf x x pg bg sg dV kV doc pm an cdv ct) [a] []) (Sg : FnScope Ng [a] sg) (hNg : Ng[0]? = some a) (hva : Vis sg a) (hG : GivesS X Ng x sg g cdv bg a (X.env.qual ++ "<lambda>") TT)
    (TB : TabB X.base X.mg c Pt) (hcode : X.env.code = .ref c) (hmT : (Pt, X.env.qual ++ "<lambda>") ∈ T) (hu : ∀ z ∈ T, z.1 = Pt → z.2 = X.env.qual ++ "<lambda>") (room : Room (k + 2) X.A) (L : LamS X.env.scope sc) (hdef : defaultsOf ps X.env = ([], []))
    (hbind : ∀ (q : Str) (cl : List (Str × Addr)) (pm cv ctv : Value), bindArgs (PySem.W.kla_fn "<lambda>" q ps b sc cl pm cv ctv) ⟨[], []⟩ = pure [])
    (hbody : ∀ (A : Around) (outer : List Env) (s : Shared) (H : Hp) (E : XK) (f c' : Addr), Room k (A.deeper (LamX.lamEnv X sc s.heap.objs.size f c')) → PE (LamX.lamCx X A outer s H E sc f c') b (t E))
    (hdb : (x == ("__debug__" : Str)) = false := by decide) (hd : (a == ("__debug__" : Str)) = false := by decide) (hcd : (a == ("__classdict__" : Str)) = false := by decide) :
    PE X (.Call (.Name x p) [.Lambda ps b sc lpos] [] pos) (LamX.tLam T TT t) := by
  constructor
  rintro pins s σ H Q I ⟨tabs, w⟩
  refine wpAny_Call_Name_kw (ld_glob I hg hm (PySem.W.callWith_K (h₀ := X.base) I.ok.mod.kin hk ?_ (by rfl) (by rfl)) hdb)
  show wpAny _ _ (spliced ((false, eval (.Lambda ps b sc lpos) X.env) :: backTo pos (starEach [] X.env))) _ _ _
  refine Calls.spliced_cons (LamX.lam_make2 I TB hcode hmT hu tabs hdef (L.has I.ok) ?_)
  intro f c' pm1 ct1 H1 s1 I1 grown tabs1 here untold nofr known
  refine Calls.spliced_nil ⟨I1.kIn, wpAny_call (codeAny_mono (LamX.run_ofS (CX := C8.CX0) (Q := Q) (E := C8.E0) (N := Ng) (us := [.ref f]) (vs := [.ref f]) lk hcg Sg room I1.env0 (hb s1 [.ref f] I1.kIn rfl) (.cons rfl .nil) rfl fun room2 => ?_) ?_)⟩
  · refine (hG f c' s1 H1 Q (fun E H' Q' => t E σ H' Q') (fun W pn xe E p1 p2 tk => ?_) known (w H1 grown tabs1)).imp fun t' z => ⟨z.1.nox, z.2⟩
    exact ask_run I1 L here untold nofr (hbind _ _ _ _ _) tk room2 (fun A outer s H r => hbody A outer s H E f c' r) hNg hva hd hcd
  · rintro (e | fl) s2 hq
    · exact (show False from hq).elim
    · cases fl with
      | ret u => exact I1.after hq
      | next => exact False.elim hq
      | brk => exact False.elim hq
      | cont => exact False.elim hq
end
end Tw

set_option maxHeartbeats 400000
/-! a lambda with parameters that is handed to a def as its third value, and called there by the parameter's name -/
namespace Tw
open PySem PySem.Spec PyProof.Rows L2
open LamX (ExtN Tabs TabB CodeO)
open NdefX (NF NScope CellsAt startF ncx Caps slotAt)
/-- the lambda as the layer's nested functions tell of theirs -/
abbrev parF (X : Cx) (pr : Arguments) (sc : Scope) (c' : Addr) : NF := ⟨"<lambda>", X.env.qual ++ "<lambda>", pr, [], sc, cloFrom X.env.cells sc.names [], c'⟩
section
variable {X : Cx} {pr : Arguments} {b : Expr} {sc : Scope} {f c' : Addr} {pm ct : Value} {N ps fr : List Str} {A : Around} {outer : List Env} {s : Shared} {H : Hp} {us : List Value} {vs : List V} {ws : List (Option V)} {Q : VK} {k : Nat} {t : TE}
/-- its run: the parameters' values, and what the captured cells hold -/
theorem par_run (S : NScope N ps fr sc) (here : s.heap.get? f = some (lamAt X pr b sc c' pm ct)) (known : s.heap.CodeRec (.ref c') (X.env.qual ++ "<lambda>")) (room : Room (k + 1) A) (e0 : Env0 X.prog X.w X.K X.mg X.base A outer s H)
    (C : CellsAt (cloFrom X.env.cells sc.names []) fr ws s.heap H) (r : Vals vs us) (many : vs.length = ps.length) (bind : bindArgs (PySem.W.kla_fn "<lambda>" (X.env.qual ++ "<lambda>") pr b sc (cloFrom X.env.cells sc.names []) pm (.ref c') ct) ⟨us, []⟩ = pure (ps.zip us))
    (body : Room k (A.deeper (NdefX.envF (parF X pr sc c') f s.heap.objs.size)) → PE (ncx CX0 X.prog X.w X.K X.mg X.base N (parF X pr sc c') f A outer s H E0) b t) (h : t (startF N vs ws) H Q) :
    codeAny (model X.prog X.w) A (.call (.ref f) ⟨us, []⟩) (CR CX0 outer X.prog X.w H s Q E0) s := by
  have free_ := e0.mod.nolimit.keeps fun a o z => (e0.bs a o z).1
  refine PySem.W.kla_callFunE room.depth here rfl S.co S.gen rfl known ?_
  rw [bind]
  refine wpAny_pure (wpAny_newFunctionEnv S.nocell (fun y hy => S.par y.1 (List.of_mem_zip (a := y.1) (b := y.2) hy).1) (fun h1 named new => ⟨free_.fresh _ new, ?_⟩) S.kind)
  have J := NdefX.inv_startN (E := E0) (CX := CX0) (f := f) (F := parF X pr sc c') (tk := s.toks + (ps.zip us).length) S room.hd e0 many r C named fun a o z => new.extBut a o (Nat.ne_of_lt (Heap.lt_size z)) (Heap.get?_push_of_some _ z)
  refine PySem.W.kla_codeExpr (wpAny_mono ((body (room.deeper _)).run [] _ _ H Q J h) ?_ fun _ _ z => z)
  rintro u s1 ⟨v, H1, J1, rv, q⟩
  exact ⟨v, H1, J1.os, J1.bare, J1.base, J1.hok, rv, q⟩
end
/-- captured cells hold still, whatever happens to the frames -/
theorem cells_un {cl : List (Str × Addr)} {fr : List Str} {ws : List (Option V)} {fs ex : List Addr} {H H' : Hp} {h h' : Heap} (C : CellsAt cl fr ws h H) (un : Un fs ex H H' h h') (hx : ∀ a, a ∉ ex) : CellsAt cl fr ws h' H' := by
  have still : ∀ {a : Addr} {v : Option Value}, H a = none → h.IsCell a v → h'.IsCell a v := fun {a v} n ⟨o, ho, hd⟩ =>
    let ⟨_, there⟩ := un.any ho n (hx a)
    ⟨_, there, hd⟩
  refine { len := C.len, inj := C.inj, all := fun y a e => ?_, has := fun i y e => ?_ }
  · obtain ⟨n, v, z⟩ := C.all y a e
    have z2 := still n z
    obtain ⟨o, ho, _⟩ := z
    exact ⟨un.free a o ho n (hx a), v, z2⟩
  · obtain ⟨a, ha, hv⟩ := C.has i y e
    exact ⟨a, ha, fun v ev => (hv v ev).imp fun u z => ⟨z.1, still (C.all y a ha).1 z.2⟩⟩
/-- the context of the def that is handed the lambda -/
abbrev toldCx (X : Cx) (Ng : List Str) (x : Str) (sg : Scope) (g : Addr) (cdg : Value) (s : Shared) (H : Hp) : Cx := (cxOf CX0 X.prog X.w X.K X.mg X.base Ng x sg g cdg X.A X.stack s H E0).nox
/-- what the def does with it: TT tells, from the two values ahead and the lambda's reading tl -/
def GivesP (X : Cx) (Ng : List Str) (x : Str) (sg : Scope) (g : Addr) (cdg : Value) (bg : List Stmt) (a : Str) (i : Nat) (q : Str) (TT : V → V → (V → Hp → VK → Prop) → Hp → VK → Prop) : Prop :=
  ∀ (f c' : Addr) (s : Shared) (H : Hp) (Q : VK) (v1 v2 : V) (tl : V → Hp → VK → Prop),
    (∀ (e : Expr) (te : TE) (p1 p2 : Pos), PE (toldCx X Ng x sg g cdg s H) e te → starEach [e] (toldCx X Ng x sg g cdg s H).env = (false, eval e (toldCx X Ng x sg g cdg s H).env) :: starEach [] (toldCx X Ng x sg g cdg s H).env →
      PE (toldCx X Ng x sg g cdg s H) (.Call (.Name a p1) [e] [] p2) (fun σ1 H1 Q1 => σ1[i]? = some (some (.ref f)) ∧ te σ1 H1 fun v H2 => H2 c' = some (CodeO c' q) ∧ tl v H2 Q1)) →
    H c' = some (CodeO c' q) → TT v1 v2 tl H Q →
    ∃ t, PSs (toldCx X Ng x sg g cdg s H) bg t ∧ t { nx := fun _ H' => Q .non H', rt := Q } (L2.start Ng [v1, v2, .ref f]) H
def tHandP (T : List (Addr × Str)) (N : List Str) (js : List Nat) (TT : V → V → (V → Hp → VK → Prop) → Hp → VK → Prop) (t1 t2 tb : TE) : TE := fun σ H Q => t1 σ H fun v1 H1 => t2 σ H1 fun v2 H2 => Tabs T H2 ∧
  ∀ H3, ExtN H2 H3 → Tabs T H3 → TT v1 v2 (fun v H' Q' => tb (startF N [v] (js.map (slotAt σ))) H' Q') H3 Q
section
variable {X : Cx} {pr : Arguments} {b : Expr} {sc : Scope} {N fr : List Str} {y : Str} {js : List Nat} {T : List (Addr × Str)} {c Pt : Addr} {k i : Nat} {x a : Str} {g : Addr} {ag : Arguments} {bg : List Stmt} {sg : Scope} {dV kV doc pm cdv ct oc : Value} {an od : Option Addr}
  {osl : Array (Option Value)} {Ng pg : List Str} {TT : V → V → (V → Hp → VK → Prop) → Hp → VK → Prop} {t1 t2 tb : TE} {e1 e2 : Expr} {p lp pos : Pos}
/-- x(e1, e2, lambda y: b) -/
theorem pe_handP (hg : Gl X x) (hm : X.mg x = some (.ref g)) (hk : PySem.W.keepIn X.K (.ref g) = true) (lk : X.K.lookup g = some ⟨oc, od, .func (PySem.W.fnOf x x ag bg sg dV kV doc pm an cdv ct), osl⟩) (hcg : PySem.W.codeIn X.K cdv x = true)
    (hb : L2.Binds X.K (PySem.W.fnOf x x ag bg sg dV kV doc pm an cdv ct) pg []) (Sg : FnScope Ng pg sg) (h3 : pg.length = 3) (hNg : Ng[i]? = some a) (hva : Vis sg a) (hG : GivesP X Ng x sg g cdv bg a i (X.env.qual ++ "<lambda>") TT)
    (TB : TabB X.base X.mg c Pt) (hcode : X.env.code = .ref c) (hmT : (Pt, X.env.qual ++ "<lambda>") ∈ T) (hu : ∀ z ∈ T, z.1 = Pt → z.2 = X.env.qual ++ "<lambda>") (room : Room (k + 2) X.A) (S : NScope N [y] fr sc) (look : NdefX.ndefB X.env.scope sc fr = true) (hjs : js.map (fun j => X.N[j]?) = fr.map some)
    (h1 : PE X e1 t1) (h2 : PE X e2 t2)
    (hbody : ∀ (A : Around) (outer : List Env) (s : Shared) (H : Hp) (f c' : Addr), Room k (A.deeper (NdefX.envF (parF X pr sc c') f s.heap.objs.size)) → PE (ncx CX0 X.prog X.w X.K X.mg X.base N (parF X pr sc c') f A outer s H E0) b tb)
    (hdef : defaultsOf pr X.env = ([], []) := by rfl) (hbind : ∀ (q : Str) (cl : List (Str × Addr)) (pm cv ctv u : Value), bindArgs (PySem.W.kla_fn "<lambda>" q pr b sc cl pm cv ctv) ⟨[u], []⟩ = pure [(y, u)] := by intros; rfl)
    (hdb : (x == ("__debug__" : Str)) = false := by decide) (hd : (a == ("__debug__" : Str)) = false := by decide) (hcd : (a == ("__classdict__" : Str)) = false := by decide)
    (f1 : starEach [e1, e2, .Lambda pr b sc lp] X.env = (false, eval e1 X.env) :: starEach [e2, .Lambda pr b sc lp] X.env := by rfl) (f2 : starEach [e2, .Lambda pr b sc lp] X.env = (false, eval e2 X.env) :: starEach [.Lambda pr b sc lp] X.env := by rfl) :
    PE X (.Call (.Name x p) [e1, e2, .Lambda pr b sc lp] [] pos) (tHandP T N js TT t1 t2 tb) := by
  constructor
  intro pins s σ H Q I w
  have plain : (backTo pos (starEach [e2, .Lambda pr b sc lp] X.env)).any (·.1) = false := by
    rw [f2]
    rfl
  refine wpAny_Call_Name_kw (ld_glob I hg hm (PySem.W.callWith_K (first := []) (h₀ := X.base) I.ok.mod.kin hk ?_ f1 plain) hdb)
  rw [f1, f2]
  show wpAny _ _ (spliced ((false, eval e1 X.env) :: (false, eval e2 X.env) :: (false, eval (.Lambda pr b sc lp) X.env) :: backTo pos (starEach [] X.env))) _ _ _
  refine Calls.spliced_cons (thn (h1.run pins _ σ H _ (I.tok _) w) ?_)
  rintro u1 s1 ⟨v1, H1, I1, r1, w1⟩
  refine Calls.spliced_cons (thn (h2.run pins s1 σ H1 _ I1 w1) ?_)
  rintro u2 s2 ⟨v2, H2, I2, r2, tabs, w2⟩
  refine Calls.spliced_cons (LamX.lam_make2 I2 TB hcode hmT hu tabs hdef (fun y hy e => ?_) ?_)
  · rcases NdefX.ndef_free look y hy e with z | z
    · exact I2.ok.has _ (.inl z)
    · exact I2.ok.has _ (.inr z)
  intro f c' pm1 ct1 H3 s3 I3 grown tabs3 here untold nofr known
  refine Calls.spliced_nil ⟨I3.kIn, ?_⟩
  have C0 := NdefX.cells_of I3 (Caps.made I3.ok (NdefX.ndef_free look) (NdefX.ndef_fr look) hjs)
  refine wpAny_call (codeAny_mono (LamX.run_ofS (CX := CX0) (Q := Q) (E := E0) (k := k + 1) (N := Ng) (us := [u1, u2, .ref f]) (vs := [v1, v2, .ref f]) lk hcg Sg room I3.env0 (hb s3 [u1, u2, .ref f] I3.kIn h3.symm) (.cons r1 (.cons r2 (.cons rfl .nil))) h3.symm ?_) ?_)
  · intro room2
    refine (hG f c' s3 H3 Q v1 v2 (fun v H' Q' => tb (startF N [v] (js.map (slotAt σ))) H' Q') (fun e te q1 q2 he hst => ⟨?_⟩) known (w2 H3 grown tabs3)).imp fun t z => ⟨z.1.nox, z.2⟩
    intro pinsZ sZ σZ HZ QZ IZ ⟨slot, wz⟩
    refine wpAny_Call_Name_kw (thn ((pe_var (pos := q1) hNg hva hd hcd).run pinsZ sZ σZ HZ (fun z H' => z = .ref f ∧ H' = HZ) IZ ⟨.ref f, slot, rfl, rfl⟩) ?_)
    rintro u s4 ⟨z, H4, I4, rz, ez, eH⟩
    subst ez eH
    obtain rfl : u = Value.ref f := rz
    have stays : ∀ {s5 : Shared} {H5 : Hp}, Inv (toldCx X Ng x sg g cdv s3 H3) pinsZ σZ H5 s5 → s5.heap.get? f = some (lamAt X pr b sc c' pm1 ct1) := fun J => J.base.keep f _ here untold nofr (fun z => nomatch (show f ∈ ([] : List Addr) from z))
    refine PySem.W.callWith_F (first := []) ⟨_, _, _, _, stays I4⟩ (thn ((pa_cons he pa_nil hst).run q2 pinsZ s4 σZ H4 (fun vs H' => match vs with
      | [v] => H' c' = some (CodeO c' (X.env.qual ++ "<lambda>")) ∧ tb (startF N [v] (js.map (slotAt σ))) H' QZ
      | _ => False) I4 wz) ?_) hst rfl
    rintro us s5 ⟨vs, H5, I5, rv, w5⟩
    refine ⟨⟨_, _, _, _, stays I5⟩, ?_⟩
    match vs, us, rv, w5 with
    | [v], [u], rv, ⟨kn, w6⟩ =>
      have e5 : Env0 X.prog X.w X.K X.mg X.base (toldCx X Ng x sg g cdv s3 H3).A (toldCx X Ng x sg g cdv s3 H3).stack s5 H5 := I5.env0
      have known5 : s5.heap.CodeRec (.ref c') (X.env.qual ++ "<lambda>") := NdefX.codeO_at I5.hok kn
      have C5 : CellsAt (cloFrom X.env.cells sc.names []) fr (js.map (slotAt σ)) s5.heap H5 := cells_un C0 I5.base fun a z => nomatch (show a ∈ ([] : List Addr) from z)
      have ran := par_run (X := X) (pr := pr) (b := b) (sc := sc) (f := f) (c' := c') (pm := pm1) (ct := ct1) (N := N) (ps := [y]) (fr := fr) (A := (toldCx X Ng x sg g cdv s3 H3).A) (outer := (toldCx X Ng x sg g cdv s3 H3).stack) (s := s5) (H := H5) (us := [u]) (vs := [v]) (ws := js.map (slotAt σ)) (Q := QZ) (k := k) (t := tb) S (stays I5) known5 room2 e5 C5 rv rfl (hbind _ _ _ _ _ _) (fun r6 => hbody _ _ _ _ _ _ r6) w6
      refine wpAny_call (codeAny_mono ran ?_)
      intro r s6 hq
      match r, hq with
      | .error _, hq => exact hq.elim
      | .ok (.ret _), hq => exact I5.after hq
      | .ok .next, hq => exact False.elim hq
      | .ok .brk, hq => exact False.elim hq
      | .ok .cont, hq => exact False.elim hq
  · intro r s4 hq
    match r, hq with
    | .error _, hq => exact hq.elim
    | .ok (.ret _), hq => exact I3.after hq
    | .ok .next, hq => exact False.elim hq
    | .ok .brk, hq => exact False.elim hq
    | .ok .cont, hq => exact False.elim hq
end
/-! an own exception class that is made without values -/
section
variable {b : Bs} {X : Cx} {o e : Expr} {es : List Expr} {to te : TE} {ta : TA} {f x : Str} {p p' p1 p2 pos : Pos} {pl : Sem Bool}
theorem pmk_b0 {k j : Nat} {C : Addr} {sp : Sp} (c : MkB b X.prog X.w X.K X.mg X.base k x C sp) (hr : Room j X.A) (hk : k + 1 ≤ j) (hg : Gl X x) (hdb : (x == ("__debug__" : Str)) = false := by decide) : PMk X (.Call (.Name x p) [] [] pos) (tMkO C sp [] tNil) := by
  rintro pins ⟨hp, g, d, t, os⟩ σ H Q I1 ⟨few, q⟩
  obtain ⟨init, fd, ps, T, at_, F0, hm, bnd⟩ := c.ex
  have F := F0.raw bnd .nil
  refine wpAny_Call_Name_kw (ld_glob I1 hg hm (PySem.W.callWith_K0 (first := []) I1.kIn T.keep ?_) hdb)
  obtain ⟨_, _, _, _, _, _, _, _, _, _, _, _, _, _, _, _, cls, line⟩ := PySem.W.excInit_of I1.kIn T.makes
  have next := Nat.le_succ hp.objs.size
  have kept : ∀ c o, hp.get? c = some o → ((hp.push (PySem.W.kdv_tup [])).push (PySem.HandSPX.excO C hp.objs.size)).get? c = some o := fun c o z => Heap.get?_push_of_some _ (Heap.get?_push_of_some _ z)
  have I2 := I1.laid (h' := (hp.push (PySem.W.kdv_tup [])).push (PySem.HandSPX.excO C hp.objs.size)) (t' := t) (o := exo (hp.objs.size + 1) C none) kept next (exo_ok (t1 := hp.objs.size) (by heap_get))
  have fits : ([] : List Value).length ≤ sizeLine := Nat.zero_le _
  have ran := F _ X.stack _ _ [.ref (hp.objs.size + 1)] [.ref (hp.objs.size + 1)] _ E0 ((hr.mono hk).make C [] []) (I2.env0.make C [] []) (.cons rfl .nil) (q _ (I1.hok.fresh next))
  refine wpAny_call (PySem.HandSPX.call_own T.ok.fac line cls (PySem.W.looks_findIn I1.kIn at_.find) (fun self => PySem.W.bind_fn I1.kIn self at_.fn) fits (codeAny_mono ran ?_))
  rintro (_ | (_ | _ | _ | _)) ⟨h2, g2, d2, t2, os2⟩ z <;> first
    | exact False.elim z
    | (obtain ⟨_, H2, os', bare, un, hok, rv, rfl, dd, fs, ea, ed, new, q2⟩ := z
       exact ⟨rv, mk_end (raises_own T.exc T.typ) I1 next kept un hok os' bare ea ed new q2⟩)
end
end Tw

set_option maxHeartbeats 400000
/-! a lambda that a name keeps, handed to a def: what it raises finds the def's names as they stood at the call -/
namespace Tw
open PySem PySem.Spec PyProof.Rows L2
open LamX (ExtN Tabs TabB LamS CodeO)
section
variable {X : Cx} {TT : (XK → Hp → VK → Prop) → Hp → VK → Prop} {x a v : Str} {g f c' : Addr} {i k : Nat} {pg ps : Arguments} {bg : List Stmt} {sg sc : Scope} {dV kV doc pm cdv ct oc : Value} {an od : Option Addr} {osl : Array (Option Value)} {Ng : List Str} {b : Expr} {t : XK → TE} {p p2 pos : Pos}
/-- x(v), v a name that keeps a lambda -/
theorem pe_handS (hg : Gl X x) (hm : X.mg x = some (.ref g)) (hk : PySem.W.keepIn X.K (.ref g) = true) (lk : X.K.lookup g = some ⟨oc, od, .func (PySem.W.fnOf x x pg bg sg dV kV doc pm an cdv ct), osl⟩) (hcg : PySem.W.codeIn X.K cdv x = true)
    (hb : L2.Binds X.K (PySem.W.fnOf x x pg bg sg dV kV doc pm an cdv ct) [a] []) (Sg : FnScope Ng [a] sg) (hNg : Ng[0]? = some a) (hva : Vis sg a) (hG : GivesS X Ng x sg g cdv bg a (X.env.qual ++ "<lambda>") TT)
    (kp : KeptL X ps b sc f c') (hN : X.N[i]? = some v) (hv : Vis X.env.scope v) (room : Room (k + 2) X.A) (L : LamS X.env.scope sc)
    (hbind : ∀ (q : Str) (cl : List (Str × Addr)) (pm cv ctv : Value), bindArgs (PySem.W.kla_fn "<lambda>" q ps b sc cl pm cv ctv) ⟨[], []⟩ = pure [])
    (hbody : ∀ (A : Around) (outer : List Env) (s : Shared) (H : Hp) (E : XK), Room k (A.deeper (LamX.lamEnv X sc s.heap.objs.size f c')) → PE (LamX.lamCx X A outer s H E sc f c') b (t E))
    (hdb : (x == ("__debug__" : Str)) = false := by decide) (hd : (a == ("__debug__" : Str)) = false := by decide) (hcd : (a == ("__classdict__" : Str)) = false := by decide)
    (hd2 : (v == ("__debug__" : Str)) = false := by decide) (hcd2 : (v == ("__classdict__" : Str)) = false := by decide) :
    PE X (.Call (.Name x p) [.Name v p2] [] pos) (tHand (X.env.qual ++ "<lambda>") f c' i TT t) := by
  constructor
  rintro pins s σ H Q I ⟨w1, w2, w3⟩
  have look := (pe_var (pos := p2) hN hv hd2 hcd2).run pins s σ H (fun z H1 => z = .ref f ∧ H1 = H) I ⟨.ref f, w1, rfl, rfl⟩
  refine wpAny_Call_Name_kw (ld_glob I hg hm (PySem.W.callWith_K (h₀ := X.base) I.ok.mod.kin hk ?_ (by rfl) (by rfl)) hdb)
  show wpAny _ _ (spliced ((false, eval (.Name v p2) X.env) :: backTo pos (starEach [] X.env))) _ _ s
  refine Calls.spliced_cons (thn look ?_)
  rintro u s1 ⟨z, H1, I1, rz, ez, eH⟩
  subst ez eH
  obtain rfl : u = Value.ref f := rz
  obtain ⟨pm1, ct1, here, untold, nofr⟩ := kp.at I1
  refine Calls.spliced_nil ⟨I1.kIn, wpAny_call (codeAny_mono (LamX.run_ofS (CX := C8.CX0) (Q := Q) (E := C8.E0) (N := Ng) (us := [.ref f]) (vs := [.ref f]) lk hcg Sg room I1.env0 (hb s1 [.ref f] I1.kIn rfl) (.cons rfl .nil) rfl fun room2 => ?_) ?_)⟩
  · refine (hG f c' s1 H1 Q (fun E H' Q' => t E σ H' Q') (fun W pn xe E p1 p2 tk => ?_) w2 w3).imp fun t' z => ⟨z.1.nox, z.2⟩
    exact ask_run I1 L here untold nofr (hbind _ _ _ _ _) tk room2 (fun A outer s H r => hbody A outer s H E r) hNg hva hd hcd
  · rintro (e | fl) s2 hq
    · exact (show False from hq).elim
    · cases fl with
      | ret u => exact I1.after hq
      | next => exact False.elim hq
      | brk => exact False.elim hq
      | cont => exact False.elim hq
end
end Tw

set_option maxHeartbeats 4000000
/-! methods called with keywords, in any order, some left out; what is raised told or not -/
namespace Tw
open PySem PySem.Spec PyProof.Rows L2
theorem MetG.calm {P : Program} {w : World} {K : PySem.W.Frag} {mg : Str → Option Value} {base : Heap} {k : Nat} {C : Addr} {m : Str} {sp : Sp} {n : Nat} {ks : List Str} {gV : List V → List V → List V} (c : MetG P w K mg base (L2.CX P w) k C m sp n ks gV) : MetG P w K mg base CX0 k C m (fun vs H Q _ => sp vs H Q E0) n ks gV :=
  let ⟨f, fd, ps, g, cls, me, F, kb⟩ := c.ex
  ⟨f, fd, ps, g, cls, me, fn_calm F, kb⟩
theorem vals_rev : ∀ {zs : List V} {ws : List Value}, Vals zs ws → Vals zs.reverse ws.reverse
  | _, _, .nil => .nil
  | _, _, .cons h t => by
    rw [List.reverse_cons, List.reverse_cons]
    exact (vals_rev t).append (.cons h .nil)
/-- o.m(e, .., k = v, ..) where what the method raises is told -/
theorem pe_mgx {X : Cx} {k j n : Nat} {C : Addr} {m : Str} {sp : Sp} {pos apos : Pos} {e o : Expr} {es : List Expr} {ta : TE} {t tk : TA} {ks : List Str} {kws : List Keyword} {gV : List V → List V → List V} {E : XK} {pl : Sem Bool} {W : WX}
    (c : MetG X.prog X.w X.K X.mg X.base (L2.CX X.prog X.w) k C m sp n ks gV) (taken : Takes X W) (hW : ∀ cls d σ H, E cls d H → W cls d σ H) (hr : Room j X.A) (hk : k ≤ j) (he : PE X o ta) (ha : PA X (e :: es) t) (hkw : PK X kws tk) (form : KwForm X pl o e es kws m apos pos ks := by exact ⟨rfl, rfl, rfl, rfl, rfl⟩) :
    PE X (.Call (.Attribute o m apos) (e :: es) kws pos) (tMethG C m n ks.length sp gV E ta t tk) := pe_mg c (passes_call taken hW) hr hk he ha hkw form
end Tw

set_option maxHeartbeats 4000000
namespace Tw
open PySem PySem.Spec PyProof.Rows L2
/-! tuples joined and cut: what stands at the told place -/
def rCatU : R2 := fun x y H Q => ∃ a b xs ys, x = .ref a ∧ y = .ref b ∧ H a = some (.tup xs) ∧ H b = some (.tup ys) ∧ xs.length + ys.length ≤ sizeLine ∧ ∀ p H', Same H H' → H' p = some (.tup (xs ++ ys)) → Q (.ref p) H'
theorem op_catU {X : Cx} : OpR X (binaryOp .Add) rCatU := by
  intro pins s σ H x y v u Q I rx ry h
  obtain ⟨a, b, xs, ys, rfl, rfl, ha, hb, hl, q⟩ := h
  refine op_catA pins s σ H _ _ v u Q I rx ry ⟨a, b, xs, ys, rfl, rfl, .inl (.inl ha), .inl (.inl hb), hl, fun e => ?_, fun _ e => ?_, fun _ _ p np => q p _ (same_upd np) upd_same⟩
  · exact q b H (Same.refl H) (by rw [hb, e]; rfl)
  · exact q a H (Same.refl H) (by rw [ha, e, List.append_nil])
def rSlU : V → Option Int → Option Int → Hp → VK → Prop := fun x lo hi H Q => ∃ a xs, x = .ref a ∧ H a = some (.tup xs) ∧ ∀ p H', Same H H' → H' p = some (.tup (cutV xs lo hi)) → Q (.ref p) H'
theorem sl_tupU {X : Cx} : SlR X rSlU := by
  intro pins s σ H x v vl vu lo hi sl Q I rx hs pl pu h
  obtain ⟨a, xs, rfl, ha, q⟩ := h
  refine sl_tupA pins s σ H _ v vl vu lo hi sl Q I rx hs pl pu ⟨a, xs, rfl, .inl (.inl ha), fun e => ?_, fun _ p np => q p _ (same_upd np) upd_same⟩
  refine q a H (Same.refl H) ?_
  rw [ha]
  unfold cutV
  rw [e.1, e.2, List.drop_zero, Nat.sub_zero, List.take_length]
end Tw

set_option maxHeartbeats 4000000
/-! == and != of own instances by an own __eq__ -/
namespace Tw
open PySem PySem.Spec PyProof.Rows L2
section
variable {X : Cx} {k j : Nat} {C : Addr} {sp : Sp}
/-- a == b by an own __eq__ -/
def rEqO (K : PySem.W.Frag) (C : Addr) (sp : Sp) : R2 := fun x y H Q => ∃ a dx fs t, x = .ref a ∧ H a = some (.ins C dx fs) ∧ TyX K H y t ∧ PySem.W.notFirst K C t = true ∧ sp [x, y] H (fun v H' => ∃ b : Bool, v = .bl b ∧ Q (.bl b) H') E0
theorem op_eqO (c : Met X.prog X.w X.K X.mg X.base k C "__eq__" sp) (hr : Room j X.A) (hk : k ≤ j) : OpR X (compareOp .Eq) (rEqO X.K C sp) := by
  rintro pins s σ H x y v u Q I rx ry ⟨a, dx, fs, t, rfl, here, ty, nf, q⟩
  cases (show _ = Value.ref a from rx)
  obtain ⟨Pt, kit, pt, _⟩ := kit_of I ry ty
  obtain ⟨f, hs, hf, F⟩ := own0 c
  obtain ⟨_, J0, _⟩ := ins_get I.hok here
  obtain ⟨_, J, _⟩ := J0.look
  obtain ⟨_, hF⟩ := I.fr
  have room : Room k X.A := hr.mono hk
  have ra : RelV (.ref a) (Value.ref a) := rfl
  refine PySem.W.cmp_ofEq (PySem.W.cmp_K room.units0 hF I.ok.mod.kin J (kit.ty _ _ I.kIn pt) nf hs hf (thn (wpAny_call (SlX.run_at F room I.env0 pass0 I (.cons ra (.cons ry .nil)) q)) ?_))
  rintro _ s1 ⟨_, H1, I1, rv, b, rfl, q1⟩
  cases (show _ = Value.bool b from rv)
  exact ⟨.bl b, H1, I1, rfl, q1⟩
end
section
variable {prog : Program} {w : World} {A : Around} {E : Value → Shared → Prop} {s : Shared} {K : PySem.W.Frag} {x C f : Addr} {ox : Obj} {od : Option Obj} {b tb : Value} {Q : Value → Shared → Prop}
/-- the comparison's slot that every object has: it asks an own __eq__ and turns the word around -/
theorem slot_ne (hK : K.In s.heap) (J : PySem.W.InstAt s.heap x ox C od) (hu1 : A.in1.units < cLine) (hs : PySem.W.findIn K (.ref C) "__eq__" = some (some (.ref f))) (hf : PySem.W.isFn K (.ref f) = true) (io : PySem.W.subIn K (.ref C) (.type "object") = some true)
    (h : wpAny (model prog w) A.in1 (call (.ref f) [.ref x, b]) (fun v s' => ∃ k, v = .bool k ∧ Q (.bool (!k)) s') E s) : wpAny (model prog w) A (call (.builtin "object.__ne__") [.ref x, b]) Q E s := by
  refine wpAny_call (codeAny_call_builtin (by decide +kernel) PySem.F.cmpEntry_ne ?_)
  refine PySem.W.check_slot PySem.F.cmpKind_ne PySem.F.cmpSplit_ne (fun A' Q' E' s' keep q' => ?_) (PySem.F.cmpArgs_ne _ _) ?_
  · unfold isInstance
    refine wpAny_bind (wpAny_typeOf_ref (keep _ _ J.at_) ?_)
    rw [J.cls]
    exact PySem.W.looks_subIn hK io _ _ _ _ keep q'
  · unfold Builtin.«object.__ne__»
    have e : slotArgs "__ne__" 1 { pos := [Value.ref x, b] } = pure (.ref x, [b]) := rfl
    rw [e]
    refine wpAny_bind (wpAny_pure ?_)
    refine wpAny_bind (wpAny_cRoomFor hu1 ?_)
    refine wpAny_bind (PySem.W.ifBound_K hK J hs hf (wpAny_mono h ?_ (fun _ _ z => z)))
    rintro _ s' ⟨k, rfl, q⟩
    refine wpAny_bind (wpAny_truthy_bool ?_)
    refine wpAny_pure ?_
    exact q
/-- a != b where C tells == alone -/
theorem ne_own (hK : K.In s.heap) (J : PySem.W.InstAt s.heap x ox C od) (hu : A.units < cLine) (hu1 : A.in1.units < cLine) (ty : PySem.W.Looks (model prog w) s.heap (typeOf b) tb) (nf : PySem.W.notFirst K C tb = true) (hn : PySem.W.findIn K (.ref C) "__ne__" = some (some (.builtin "object.__ne__")))
    (hs : PySem.W.findIn K (.ref C) "__eq__" = some (some (.ref f))) (hf : PySem.W.isFn K (.ref f) = true) (io : PySem.W.subIn K (.ref C) (.type "object") = some true)
    (h : wpAny (model prog w) A.in1 (call (.ref f) [.ref x, b]) (fun v s' => ∃ k, v = .bool k ∧ Q (.bool (!k)) s') E s) : wpAny (model prog w) A (compareOp .NotEq (.ref x) b) Q E s := by
  have slot : wpAny (model prog w) A (tryCompare (.ref x) "__ne__" b) (fun r s' => ∃ k : Bool, r = some (.bool k) ∧ Q (.bool k) s') E s := by
    unfold tryCompare callSpecialIfBound? bindSpecialIfBound? specialOf
    have bind : ∀ self, bindSpecial (.builtin "object.__ne__") self = pure (.builtin "object.__ne__", [self]) := PySem.F.cmp_object.ne.bind
    refine wpAny_bind (wpAny_holding (wpAny_bind (wpAny_bind (wpAny_bind (wpAny_typeOf_ref J.at_ ?_)))))
    rw [J.cls]
    refine PySem.W.looks_findIn hK hn _ _ _ _ (fun _ _ z => z) ?_
    dsimp only
    rw [bind]
    have fin : wpAny (model prog w) A (call (.builtin "object.__ne__") [.ref x, b]) (fun v s' => ∃ k : Bool, v = .bool k ∧ Q (.bool k) s') E s := slot_ne hK J hu1 hs hf io (wpAny_mono h (fun v s' ⟨k, e, q⟩ => ⟨k, e, _, rfl, q⟩) (fun _ _ z => z))
    refine wpAny_bind (wpAny_askSetting ?_)
    have last : wpAny (model prog w) A (call (.builtin "object.__ne__") ([.ref x] ++ [b]) >>= fun v => pure (some v)) (fun a s' => wpAny (model prog w) A (match a with
      | some .notImplemented => pure none
      | none => pure none
      | some v => pure (some v)) (fun r s' => ∃ k : Bool, r = some (.bool k) ∧ Q (.bool k) s') E s') E s :=
      wpAny_bind (wpAny_mono fin (fun v s' ⟨k, e, q⟩ => by
        subst e
        exact wpAny_pure (wpAny_pure ⟨k, rfl, q⟩)) (fun _ _ z => z))
    split
    · exact wpAny_bind (wpAny_pure (wpAny_pure last))
    · exact wpAny_tryCatch (wpAny_bind (wpAny_pure (wpAny_pure last)))
  refine PySem.W.cmp_ofNotEq ?_
  unfold richCompare
  refine wpAny_holding (wpAny_bind (wpAny_cRoomFor hu ?_))
  have e1 : oneThing? .NotEq (.ref x) b = none := rfl
  rw [e1]
  dsimp only [cmpInfo]
  refine wpAny_bind (wpAny_typeOf_ref J.at_ ?_)
  rw [J.cls]
  refine wpAny_bind (ty _ _ _ _ (fun _ _ z => z) ?_)
  have or_ : tb = .ref C ∨ PySem.W.subIn K tb (.ref C) = some false := by
    rcases Bool.or_eq_true _ _ ▸ nf with e | e
    · exact .inl (eq_of_beq e)
    · exact .inr (eq_of_beq e)
  split
  · rename_i ne
    refine wpAny_bind ?_
    refine PySem.W.looks_subIn hK (or_.resolve_left fun e => ?_) _ _ _ _ (fun _ _ z => z) ?_
    · subst e
      simp at ne
    · rw [if_neg Bool.false_ne_true]
      refine wpAny_bind (wpAny_mono slot ?_ (fun _ _ z => z))
      rintro _ s' ⟨k, rfl, q⟩
      exact wpAny_pure q
  · refine wpAny_bind (wpAny_pure ?_)
    rw [if_neg Bool.false_ne_true]
    refine wpAny_bind (wpAny_mono slot ?_ (fun _ _ z => z))
    rintro _ s' ⟨k, rfl, q⟩
    exact wpAny_pure q
end
section
variable {X : Cx} {k j : Nat} {C : Addr} {sp : Sp}
/-- a != b by an own __eq__ -/
def rNeO (K : PySem.W.Frag) (C : Addr) (sp : Sp) : R2 := fun x y H Q => ∃ a dx fs t, x = .ref a ∧ H a = some (.ins C dx fs) ∧ TyX K H y t ∧ PySem.W.notFirst K C t = true ∧ sp [x, y] H (fun v H' => ∃ b : Bool, v = .bl b ∧ Q (.bl (!b)) H') E0
theorem op_neO (c : Met X.prog X.w X.K X.mg X.base k C "__eq__" sp) (hn : PySem.W.findIn X.K (.ref C) "__ne__" = some (some (.builtin "object.__ne__"))) (io : PySem.W.subIn X.K (.ref C) (.type "object") = some true) (hr : Room j X.A) (hk : k + 1 ≤ j) : OpR X (compareOp .NotEq) (rNeO X.K C sp) := by
  rintro pins s σ H x y v u Q I rx ry ⟨a, dx, fs, t, rfl, here, ty, nf, q⟩
  cases (show _ = Value.ref a from rx)
  obtain ⟨Pt, kit, pt, _⟩ := kit_of I ry ty
  obtain ⟨f, hs, hf, F⟩ := own0 c
  obtain ⟨_, J0, _⟩ := ins_get I.hok here
  obtain ⟨_, J, _⟩ := J0.look
  have room : Room k X.A.in1 := (hr.mono hk).in1
  have ra : RelV (.ref a) (Value.ref a) := rfl
  refine ne_own I.kIn J hr.units0 room.units0 (kit.ty _ _ I.kIn pt) nf hn hs hf io (thn (wpAny_call (SlX.run_at F room I.env0.in1 pass0 I (.cons ra (.cons ry .nil)) q)) ?_)
  rintro _ s1 ⟨_, H1, I1, rv, b, rfl, q1⟩
  exact ⟨b, rv, .bl (!b), H1, I1, rfl, q1⟩
end
end Tw

set_option maxHeartbeats 4000000
/-! isinstance(e, C) of a caught exception of just the class C -/
namespace Tw
open PySem PySem.Spec PyProof.Rows L2
section
variable {prog : Program} {w : World} {A : Around} {E : Value → Shared → Prop} {s : Shared}
def JustC (x C : Addr) (s : Shared) : Prop := ∃ o, s.heap.get? x = some o ∧ o.cls = .ref C
theorem nested_just (x C : Addr) : Meets (Builtin.«isinstance.nested» ⟨[.ref x, .ref C, rawInt 0], []⟩) (fun _ R s => JustC x C s ∧ R (.ok (.ret (.bool true))) s) := by
  rintro prog w A R s ⟨⟨o, h, e⟩, q⟩
  unfold Builtin.«isinstance.nested»
  refine wpAny_bind (wpAny_typeOf_ref h ?_)
  rw [e, if_pos (by exact beq_self_eq_true _)]
  exact wpAny_bind (wpAny_rule (wpAny_pure q))
theorem isi_just {x C : Addr} {Q : Value → Shared → Prop} (h : JustC x C s) (q : Q (.bool true) s) : wpAny (model prog w) A (call (.builtin "isinstance") [.ref x, .ref C]) Q E s :=
  call_isinstance (S := fun _ R s => JustC x C s ∧ R (.ok (.ret (.bool true))) s) (fun prog w A R s hs => isinstance_outer (nested_just x C prog w A R s hs) (fun e => nomatch e)) ⟨h, q⟩
end
theorem call_isJ {X : Cx} {a C : Addr} {oe : Obj} {cls : Value} {d : Option Addr} {pn : List (Addr × Obj)} (hz : Zc cls d oe) : CallR (X.suite a ((a, oe) :: pn)) (.builtin "isinstance") (fun xs H Q => xs = [.ref a, .ref C] ∧ cls = .ref C ∧ Q (.bl true) H) := by
  rintro pins s σ H xs us Q I r ⟨rfl, e, q⟩
  obtain ⟨u1, u2, rfl, r1, r2⟩ := vals2 r
  cases r1
  cases r2
  have caught : s.heap.get? a = some oe := (I.pin (a, oe) (by simp)).1
  exact isi_just ⟨oe, caught, hz.1.trans e⟩ ⟨.bl true, H, I, rfl, q⟩
end Tw

set_option maxHeartbeats 4000000
/-! x, *y = t, t a tuple -/
namespace Tw
open PySem PySem.Spec PyProof.Rows L2
section
variable {prog : Program} {w : World} {A : Around} {E : Value → Shared → Prop} {s : Shared}
/-- the first thing, and a new list of the others; all that stood stands -/
theorem head_rest {t : Addr} {x : Value} {rest : List Value} {Q : List Value → Shared → Prop} (ht : IsTup s.heap t (x :: rest).toArray) (hh : A.handled = none) (few : rest.length ≤ 1000)
    (h : ∀ D h' tk, (∀ b o, s.heap.get? b = some o → h'.get? b = some o) → s.heap.get? D = none → h'.get? D = some { cls := .type "list", data := .seq rest.toArray } → Q [x, .ref D] { s with heap := h', toks := tk }) : wpAny (model prog w) A (unpackItems (.ref t) 2 (some 1)) Q E s := by
  have old : ∀ b o, s.heap.get? b = some o → b ≠ s.heap.objs.size := fun b o e => Nat.ne_of_lt (Heap.lt_size e)
  have nt : t ≠ s.heap.objs.size := let ⟨o, e, _⟩ := ht; old t o e
  have none_ : s.heap.get? s.heap.objs.size = none := by
    cases e : s.heap.get? s.heap.objs.size with
    | none => rfl
    | some o => exact absurd rfl (old _ _ e)
  unfold unpackItems notIterableAtAll
  refine wpAny_bind (wpAny_bind (wpAny_specialOf ht.typeIs slot_tuple_iter.lookup (wpAny_pure ?_)))
  refine wpAny_bind (wpAny_holding (iter_tuple ht ?_))
  have ht0 := ht.push { cls := .type "tuple_iterator", data := .fields #[.ref t, .int 0 0] }
  refine wpAny_bind (wpAny_holding (draw_tuple nt 1 0 _ _ ⟨_, Heap.get?_push_size _ rfl, rfl, rfl⟩ ht0 (by show 1 ≤ (x :: rest).toArray.size; simp) fun h1 it1 but1 => ?_))
  have ht1 : IsTup h1 t (x :: rest).toArray := ht0.extBut but1.extBut nt
  obtain ⟨oi, hoi, _⟩ := id it1
  obtain ⟨ot, hot, _⟩ := id ht1
  refine wpAny_bind (wpAny_holding (PySem.W.kun_collect (k := 1) (s := { s with heap := h1 }) (T := "tuple_iterator") (.inr (.inr (.inr rfl))) (Walks.tuple (A := A.in1) hh s.heap.objs.size t nt (x :: rest).toArray) (fun j u st => st.1.typeIs) (by simp) ⟨it1, ht1⟩ (Heap.lt_size hoi) (Heap.lt_size hot) (fun h2 tk keep => ?_) (by rw [sizeLine_eq]; simp; omega)))
  have e1 : List.drop 1 (x :: rest).toArray.toList = rest := rfl
  have stay : ∀ b o, s.heap.get? b = some o → h2.get? b = some o := fun b o e => keep b o (old b o e) (but1.2 b (old b o e) ▸ Heap.get?_push_of_some _ e)
  rw [e1]
  show wpAny (model prog w) A (if rest.length < 0 then _ else newList (List.take (rest.length - 0) rest) >>= fun d => pure ([x] ++ [d] ++ List.drop (rest.length - 0) rest)) Q E _
  rw [if_neg (Nat.not_lt_zero _), Nat.sub_zero, List.take_length, List.drop_length]
  refine wpAny_bind (wpAny_newList (wpAny_pure (h _ _ tk (fun b o e => Heap.get?_push_of_some _ (stay b o e)) ?_ (Heap.get?_push_size _ rfl))) (by rw [sizeLine_eq]; omega))
  cases e : s.heap.get? h2.objs.size with
  | none => rfl
  | some o => exact absurd rfl (Nat.ne_of_lt (Heap.lt_size (stay _ o e)))
end
/-- what is told stands -/
theorem told_stands {P : Program} {w : World} {H : Hp} {h : Heap} {a : Addr} {o : HO} (x : ObjOk P w H h a o) : ∃ u, h.get? a = some u := by
  cases o <;> first
    | exact ⟨_, x⟩
    | exact x
    | exact ⟨_, x.1⟩
    | exact x.2.1
    | (obtain ⟨_, _, _, e, _⟩ := x; exact ⟨_, e⟩)
    | (obtain ⟨_, _, _, _, e⟩ := x; exact ⟨_, e⟩)
    | (obtain ⟨_, _, _, e⟩ := x; exact ⟨_, e⟩)
    | (obtain ⟨_, _, _, o, e, _⟩ := x; exact ⟨o, e⟩)
    | (obtain ⟨_, _, _, _, o, _, _, e, _⟩ := x; exact ⟨o, e⟩)
    | (obtain ⟨o, _, _, _, e, _⟩ := x; exact ⟨o, e⟩)
    | (obtain ⟨_, ⟨_, _, _, e, _⟩, _⟩ := x; exact ⟨_, e⟩)
section
variable {X : Cx}
/-- x, *y = a tuple with one thing or more -/
def gHead (K : PySem.W.Frag) (t : TGs) : TG := fun v σ H Q => ∃ a x rest, v = .ref a ∧ SqT K H a (x :: rest) ∧ rest.length ≤ 1000 ∧ ∀ D, H D = none → t [x, .ref D] σ (upd H D (.lst rest)) Q
theorem pg_head {es : List Expr} {k : Nat} {pos : Pos} {t : TGs} (hc : X.calm = true) (h : PGs X es t) (hn : (assignEach es X.env).length = 2 := by rfl) (hst : (assignEach es X.env).findIdx? (·.1) = some 1 := by rfl) : PG X (.Tuple es k pos) (gHead X.K t) := by
  constructor
  rintro pins s σ H v u Q I r ⟨a, x, rest, rfl, hq, few, hw⟩
  cases r
  obtain ⟨its, rv, ht, hz⟩ := I.tuple hq
  cases rv with
  | @cons _ u0 _ us rx rr =>
    have lr := rr.length
    rw [assign_Tuple]
    refine wpAny_bind (wpAny_standAt ?_)
    unfold unpack
    rw [hn, hst]
    refine wpAny_bind (wpAny_holding (head_rest ht (I.ok.hd hc) (by omega) fun D h' tk stay nD eD => ?_))
    have nDH : H D = none := by
      cases e : H D with
      | none => rfl
      | some o =>
        obtain ⟨u, eu⟩ := told_stands (I.hok D o e)
        rw [nD] at eu
        cases eu
    have I1 := I.laidN (t' := tk) stay nD nDH (show ObjOk X.prog X.w (upd H D (.lst rest)) h' D (.lst rest) from ⟨by rw [sizeLine_eq]; omega, us, 0, rr, eD⟩)
    exact h.run pins _ σ _ _ _ Q I1 (.cons rx (.cons (show RelV (.ref D) (Value.ref D) from rfl) .nil)) (hw D nDH)
theorem pgs_star {e : Expr} {p : Pos} {t : TG} (h1 : PG X e t) (hs : (assignEach [.Starred e p] X.env).map (·.2) = [assign e X.env] := by rfl) : PGs X [.Starred e p] (gCons t gNil) := by
  constructor
  rintro pins s σ H vs us Q I r ⟨v, rest, rfl, h⟩
  cases r with
  | cons rv rr =>
    rw [hs]
    refine assignInOrder_cons (thn (h1.run pins s σ H _ _ _ I rv h) ?_)
    rintro _ s1 ⟨σ1, H1, I1, rfl, q⟩
    cases rr
    exact assignInOrder_nil ⟨σ1, H1, I1, q⟩
/-- o.m( *e), what is raised told -/
def tMethL (K : PySem.W.Frag) (C : Addr) (m : Str) (g : Addr) (sp : Sp) (E : XK) (ta te : TE) : TE := fun σ H Q => ta σ H fun x H1 => ∃ a dx fs, x = .ref a ∧ H1 a = some (.ins C dx fs) ∧ fs.lookup m = none ∧
  ∀ q, H1 q = none → te σ (upd H1 q (.met g a)) fun y H2 => ∃ b vs, y = .ref b ∧ (SqT K H2 b vs ∨ SqL K H2 b vs) ∧ H2 q = some (.met g a) ∧ sp (.ref a :: vs) H2 Q E
theorem pe_mxs {k j : Nat} {C g : Addr} {m : Str} {sp : Sp} {p apos pos : Pos} {e o : Expr} {ta te : TE} {W : WX} {E : XK} (c : MetX X.prog X.w X.K X.mg X.base k C m sp) (b : BMeth X.K C m g) (tk : Takes X W) (hW : ∀ cls d σ H, E cls d H → W cls d σ H) (hr : Room j X.A) (hk : k ≤ j) (he : PE X o ta) (ha : PE X e te)
    (hbase : attributeBase o m X.env (eval o X.env) = eval o X.env := by rfl) : PE X (.Call (.Attribute o m apos) [.Starred e p] [] pos) (tMethL X.K C m g sp E ta te) := by
  obtain ⟨f, fd, ps, cls, me, F, bd⟩ := c.ex
  obtain rfl : f = g := Value.ref.inj (Option.some.inj (Option.some.inj (me.at_.symm.trans b.mt.at_)))
  have F' : FnR X.prog X.w X.K X.mg X.base (L2.CX X.prog X.w) k f sp := (F.raw bd .nil).imp fun vs _ _ _ h => (List.append_nil vs).symm ▸ h
  constructor
  intro pins s σ H Q I h
  refine starcall_of hbase (thn (he.run pins s σ H _ I h) ?_)
  rintro _ s1 ⟨_, H1, I1, obj, a, dx, fs, rfl, here, own, q⟩
  cases (show _ = Value.ref a from obj)
  refine getbound_ok I1 here cls b own fun q1 s2 hq1 I2 => PySem.W.ks_call (P := PySem.W.MethP X.K q1 f (.ref a)) rfl (PySem.W.keeps_M b.fi) (PySem.W.ks_lone (thn (ha.run pins s2 σ _ _ I2 (q q1 hq1)) ?_))
  rintro _ s3 ⟨_, H2, I3, ry, t, vs, rfl, ht, hm, hsp⟩
  cases (show _ = Value.ref t from ry)
  refine StX.star_any I3 ht fun us s4 I4 rv => ⟨met_P I4 hm, wpAny_call (PySem.W.method_call (met_P I4 hm).1 (run_fnR (us := Value.ref a :: us) (vs := V.ref a :: vs) F' (hr.mono hk) (passes_call tk hW) I4 (.cons (show RelV (.ref a) (Value.ref a) from rfl) rv) hsp))⟩
end
end Tw

set_option maxHeartbeats 4000000
/-! x, *y = l, l a list -/
namespace Tw
open PySem PySem.Spec PyProof.Rows L2
section
variable {prog : Program} {w : World} {A : Around} {E : Value → Shared → Prop} {s : Shared}
/-- of a list: the first thing, and a new list of the others -/
theorem head_restL {t : Addr} {x : Value} {rest : List Value} {Q : List Value → Shared → Prop} (ht : s.heap.IsList t (x :: rest).toArray) (hh : A.handled = none) (few : rest.length ≤ 1000)
    (h : ∀ D h' tk, (∀ b o, s.heap.get? b = some o → h'.get? b = some o) → s.heap.get? D = none → h'.get? D = some { cls := .type "list", data := .seq rest.toArray } → Q [x, .ref D] { s with heap := h', toks := tk }) : wpAny (model prog w) A (unpackItems (.ref t) 2 (some 1)) Q E s := by
  have old : ∀ b o, s.heap.get? b = some o → b ≠ s.heap.objs.size := fun b o e => Nat.ne_of_lt (Heap.lt_size e)
  have nt : t ≠ s.heap.objs.size := let ⟨o, e, _⟩ := ht; old t o e
  have none_ : s.heap.get? s.heap.objs.size = none := by
    cases e : s.heap.get? s.heap.objs.size with
    | none => rfl
    | some o => exact absurd rfl (old _ _ e)
  unfold unpackItems notIterableAtAll
  refine wpAny_bind (wpAny_bind (wpAny_specialOf ht.typeIs PySem.F.slot_list_iter.lookup (wpAny_pure ?_)))
  refine wpAny_bind (wpAny_holding (wpAny_pyIter_list ht ?_))
  have ht0 := ht.push { cls := .type "list_iterator", data := .fields #[.ref t, .int 0 0] }
  refine wpAny_bind (wpAny_holding (PySem.W.kun_draw nt 1 0 _ _ ⟨_, Heap.get?_push_size _ rfl, rfl, rfl⟩ ht0 (by show 1 ≤ (x :: rest).toArray.size; simp) fun h1 it1 but1 => ?_))
  have ht1 : h1.IsList t (x :: rest).toArray := ht0.extBut but1.extBut nt
  obtain ⟨oi, hoi, _⟩ := id it1
  obtain ⟨ot, hot, _⟩ := id ht1
  refine wpAny_bind (wpAny_holding (PySem.W.kun_collect (k := 1) (s := { s with heap := h1 }) (T := "list_iterator") (.inr (.inr (.inl rfl))) (Walks.list (A := A.in1) hh s.heap.objs.size t nt (x :: rest).toArray) (fun j u st => st.1.typeIs) (by simp) ⟨it1, ht1⟩ (Heap.lt_size hoi) (Heap.lt_size hot) (fun h2 tk keep => ?_) (by rw [sizeLine_eq]; simp; omega)))
  have e1 : List.drop 1 (x :: rest).toArray.toList = rest := rfl
  have stay : ∀ b o, s.heap.get? b = some o → h2.get? b = some o := fun b o e => keep b o (old b o e) (but1.2 b (old b o e) ▸ Heap.get?_push_of_some _ e)
  rw [e1]
  show wpAny (model prog w) A (if rest.length < 0 then _ else newList (List.take (rest.length - 0) rest) >>= fun d => pure ([x] ++ [d] ++ List.drop (rest.length - 0) rest)) Q E _
  rw [if_neg (Nat.not_lt_zero _), Nat.sub_zero, List.take_length, List.drop_length]
  refine wpAny_bind (wpAny_newList (wpAny_pure (h _ _ tk (fun b o e => Heap.get?_push_of_some _ (stay b o e)) ?_ (Heap.get?_push_size _ rfl))) (by rw [sizeLine_eq]; omega))
  cases e : s.heap.get? h2.objs.size with
  | none => rfl
  | some o => exact absurd rfl (Nat.ne_of_lt (Heap.lt_size (stay _ o e)))
end
/-- ( .., *y) within a comprehension -/
theorem pa_starK {X : Cx} {K : PySem.W.Frag} {e : Expr} {p : Pos} {es : List Expr} {te : TE} {t : TA} (h : X.K = K) (he : PE X e te) (hr : PA X es t) (hs : starEach (.Starred e p :: es) X.env = (true, eval e X.env) :: starEach es X.env := by rfl) : PA X (.Starred e p :: es) (StX.tStar K te t) := h ▸ StX.pa_star he hr hs
section
variable {X : Cx}
/-- x, *y = a list with one thing or more -/
def gHeadL (K : PySem.W.Frag) (t : TGs) : TG := fun v σ H Q => ∃ a x rest, v = .ref a ∧ SqL K H a (x :: rest) ∧ rest.length ≤ 1000 ∧ ∀ D, H D = none → t [x, .ref D] σ (upd H D (.lst rest)) Q
theorem pg_headL {es : List Expr} {k : Nat} {pos : Pos} {t : TGs} (hc : X.calm = true) (h : PGs X es t) (hn : (assignEach es X.env).length = 2 := by rfl) (hst : (assignEach es X.env).findIdx? (·.1) = some 1 := by rfl) : PG X (.Tuple es k pos) (gHeadL X.K t) := by
  constructor
  rintro pins s σ H v u Q I r ⟨a, x, rest, rfl, hq, few, hw⟩
  cases r
  obtain ⟨its, rv, ht, hz⟩ := I.list hq
  cases rv with
  | @cons _ u0 _ us rx rr =>
    have lr := rr.length
    rw [assign_Tuple]
    refine wpAny_bind (wpAny_standAt ?_)
    unfold unpack
    rw [hn, hst]
    refine wpAny_bind (wpAny_holding (head_restL ht.isList (I.ok.hd hc) (by omega) fun D h' tk stay nD eD => ?_))
    have nDH : H D = none := by
      cases e : H D with
      | none => rfl
      | some o =>
        obtain ⟨u, eu⟩ := told_stands (I.hok D o e)
        rw [nD] at eu
        cases eu
    have I1 := I.laidN (t' := tk) stay nD nDH (show ObjOk X.prog X.w (upd H D (.lst rest)) h' D (.lst rest) from ⟨by rw [sizeLine_eq]; omega, us, 0, rr, eD⟩)
    exact h.run pins _ σ _ _ _ Q I1 (.cons rx (.cons (show RelV (.ref D) (Value.ref D) from rfl) .nil)) (hw D nDH)
end
end Tw

set_option maxHeartbeats 4000000
/-! xs == [] -/
namespace Tw
open PySem PySem.Spec PyProof.Rows L2
def rEqNil (K : PySem.W.Frag) : R2 := fun x y H Q => ∃ a b xs, x = .ref a ∧ y = .ref b ∧ SqL K H a xs ∧ SqL K H b [] ∧ Q (.bl xs.isEmpty) H
theorem op_eqNil {X : Cx} (hu : X.A.units + 1 < cLine) : OpR X (compareOp .Eq) (rEqNil X.K) := by
  intro pins s σ H x y v u Q I rx ry h
  obtain ⟨a, b, xs, rfl, rfl, ha, hb, q⟩ := h
  cases rx
  cases ry
  obtain ⟨its, r1, l1, _⟩ := I.list ha
  obtain ⟨its2, r2, l2, _⟩ := I.list hb
  cases r2
  have le := r1.length
  match xs, its, r1, le, l1, q with
  | [], [], _, _, l1, q =>
    exact SeqAt.eq_listAt (e := fun _ => true) l1.isList l2.isList rfl (by omega) (fun j h1 _ => absurd h1 (Nat.not_lt_zero _)) ⟨.bl true, H, I, rfl, q⟩
  | _ :: _, _ :: _, _, _, l1, q =>
    refine SeqAt.eq_list_lengthsAt l1.isList l2.isList ?_ (by omega) ⟨.bl false, H, I, rfl, q⟩
    simp
  | [], _ :: _, _, le, _, _ => cases le
  | _ :: _, [], _, le, _, _ => cases le
end Tw

set_option maxHeartbeats 4000000
namespace Tw
open PySem PySem.Spec PyProof.Rows L2
theorem flat_strs (l : List Str) : (l.map V.str).all flatV = true := by
  rw [List.all_map]
  exact List.all_eq_true.mpr fun _ _ => rfl
theorem in_strs (z : Str) (l : List Str) : inV (.str z) (l.map V.str) = decide (z ∈ l) := by
  unfold inV
  rw [List.any_map]
  induction l with
  | nil => rfl
  | cons a r ih =>
    rw [List.any_cons, ih]
    have e : ((fun y => eqV y (.str z)) ∘ V.str) a = decide (z = a) := by
      show (a == z) = decide (z = a)
      by_cases h : z = a
      · subst h
        simp
      · rw [decide_eq_false h]
        exact beq_eq_false_iff_ne.mpr fun q => h q.symm
    rw [e]
    simp only [List.mem_cons]
    by_cases h : z = a <;> simp [h]
section
variable {P : Program} {w : World} {K : PySem.W.Frag} {mg : Str → Option Value} {base : Heap}
/-! ### is_number, is_whole, is_one_of -/
/-- None, a truth, an int or a text: its kind -/
def plK : V → Option String
  | .non => some "NoneType"
  | .bl _ => some "bool"
  | .int _ => some "int"
  | .str _ => some "str"
  | _ => none
theorem plK_ty {H : Hp} {v : V} {a : String} (h : plK v = some a) : TyX K H v (.type a) ∧ a ∈ kinds := by
  cases v with
  | non => cases h; exact ⟨.base .non, by decide⟩
  | bl b => cases h; exact ⟨.base (.bl _), by decide⟩
  | int i => cases h; exact ⟨.base (.int _), by decide⟩
  | str z => cases h; exact ⟨.base (.str _), by decide⟩
  | byt b => cases h
  | flt b => cases h
  | ref b => cases h
  | ty b => cases h
def numB (a : String) : Bool := kitT a "int" && !kitT a "bool"
def sp_is_number : Sp := fun vs H Q _ => ∃ (v : V) (a : String), vs = [v] ∧ plK v = some a ∧ Q (.bl (numB a)) H
theorem cal_is_number (T : Tp K mg) : Cal P w K mg base 1 "is_number" sp_is_number := by
  obtain ⟨fd, F⟩ := f_is_number T
  refine cal_of F (g_is_number T) (b_is_number F) sc_is_number (fun vs H Q E h => ?_) (fun cdv A outer s H vs Q E hr h => ?_)
  · obtain ⟨v, a, rfl, _⟩ := h
    rfl
  · obtain ⟨v, a, rfl, hk, q⟩ := h
    obtain ⟨ty, ha⟩ := plK_ty (K := K) (H := H) hk
    refine ⟨_, (pss_one (ps_ret (pe_and (pe_callB call_isK (by rfl) (z_isinstance T) bb_isinstance (pa_cons (pv 0) (pa_cons (pe_bltn (v := .ty "int") (by rfl) (z_int T) bb_int rfl) pa_nil))) (pe_one (pe_not (pe_callB call_isK (by rfl) (z_isinstance T) bb_isinstance (pa_cons (pv 0) (pa_cons (pe_bltn (v := .ty "bool") (by rfl) (z_bool T) bb_bool rfl) pa_nil)))))))), ?_⟩
    refine ⟨_, rfl, _, "int", a, rfl, ty, ha, by decide, _, rfl, ?_⟩
    unfold numB at q
    cases e : kitT a "int" with
    | true =>
      rw [e] at q
      exact iteT ⟨_, rfl, _, "bool", a, rfl, ty, ha, by decide, _, rfl, q⟩
    | false =>
      rw [e] at q
      exact iteF q
def sp_is_whole : Sp := fun vs H Q _ => ∃ (i lo hi : Int), vs = [.int i, .int lo, .int hi] ∧ Q (.bl (decide (lo ≤ i ∧ i ≤ hi))) H
theorem cal_is_whole (T : Tp K mg) : Cal P w K mg base 2 "is_whole" sp_is_whole := by
  obtain ⟨fd, F⟩ := f_is_whole T
  refine cal_of F (g_is_whole T) (b_is_whole F) sc_is_whole (fun vs H Q E h => ?_) (fun cdv A outer s H vs Q E hr h => ?_)
  · obtain ⟨i, lo, hi, rfl, _⟩ := h
    rfl
  · obtain ⟨i, lo, hi, rfl, q⟩ := h
    refine ⟨_, (pss_one (ps_ret (pe_and (C8.pe_c (cal_is_number T) hr (by decide) rfl (pa_cons (pv 0) pa_nil)) (pe_one (pe_chain op_le op_le (pv 1) (pv 0) (pv 2)))))), ?_⟩
    refine ⟨_, rfl, .int i, "int", rfl, rfl, _, rfl, ?_⟩
    refine iteT ⟨_, rfl, _, rfl, _, _, rfl, rfl, _, rfl, ite2 (fun e => ?_) (fun e => ?_)⟩
    · have e1 : lo ≤ i := of_decide_eq_true e
      refine ⟨_, rfl, _, _, rfl, rfl, ?_⟩
      have e2 : decide (lo ≤ i ∧ i ≤ hi) = decide (i ≤ hi) := by simp [e1]
      rw [e2] at q
      exact q
    · have e1 : ¬ lo ≤ i := fun z => e (decide_eq_true z)
      have e2 : decide (lo ≤ i ∧ i ≤ hi) = false := by simp [e1]
      rw [e2] at q
      exact q
/-- is_whole of any plain value -/
def whB (lo hi : Int) : V → Bool
  | .int i => decide (lo ≤ i ∧ i ≤ hi)
  | _ => false
def sp_iswh : Sp := fun vs H Q _ => ∃ (v : V) (lo hi : Int), vs = [v, .int lo, .int hi] ∧ (plK v).isSome = true ∧ Q (.bl (whB lo hi v)) H
theorem cal_iswh (T : Tp K mg) : Cal P w K mg base 2 "is_whole" sp_iswh := by
  obtain ⟨fd, F⟩ := f_is_whole T
  refine cal_of F (g_is_whole T) (b_is_whole F) sc_is_whole (fun vs H Q E h => ?_) (fun cdv A outer s H vs Q E hr h => ?_)
  · obtain ⟨v, lo, hi, rfl, _⟩ := h
    rfl
  · obtain ⟨v, lo, hi, rfl, hk, q⟩ := h
    refine ⟨_, (pss_one (ps_ret (pe_and (C8.pe_c (cal_is_number T) hr (by decide) rfl (pa_cons (pv 0) pa_nil)) (pe_one (pe_chain op_le op_le (pv 1) (pv 0) (pv 2)))))), ?_⟩
    cases v with
    | non => exact ⟨_, rfl, .non, "NoneType", rfl, rfl, _, rfl, iteF q⟩
    | bl b => exact ⟨_, rfl, .bl b, "bool", rfl, rfl, _, rfl, iteF q⟩
    | str z => exact ⟨_, rfl, .str z, "str", rfl, rfl, _, rfl, iteF q⟩
    | byt b => cases hk
    | flt b => cases hk
    | ref b => cases hk
    | ty b => cases hk
    | int i =>
      refine ⟨_, rfl, .int i, "int", rfl, rfl, _, rfl, ?_⟩
      refine iteT ⟨_, rfl, _, rfl, _, _, rfl, rfl, _, rfl, ite2 (fun e => ?_) (fun e => ?_)⟩
      · have e1 : lo ≤ i := of_decide_eq_true e
        refine ⟨_, rfl, _, _, rfl, rfl, ?_⟩
        have e2 : decide (lo ≤ i ∧ i ≤ hi) = decide (i ≤ hi) := by simp [e1]
        have q : Q (.bl (decide (lo ≤ i ∧ i ≤ hi))) H := q
        rw [e2] at q
        exact q
      · have e1 : ¬ lo ≤ i := fun z => e (decide_eq_true z)
        have e2 : decide (lo ≤ i ∧ i ≤ hi) = false := by simp [e1]
        have q : Q (.bl (decide (lo ≤ i ∧ i ≤ hi))) H := q
        rw [e2] at q
        exact q
def sp_is_one_of : Sp := fun vs H Q _ => ∃ (z : Str) (p : Addr) (l : List Str), vs = [.str z, .ref p] ∧ H p = some (.lst (l.map V.str)) ∧ Q (.bl (decide (z ∈ l))) H
theorem cal_is_one_of (T : Tp K mg) : Cal P w K mg base 1 "is_one_of" sp_is_one_of := by
  obtain ⟨fd, F⟩ := f_is_one_of T
  refine cal_of F (g_is_one_of T) (b_is_one_of F) sc_is_one_of (fun vs H Q E h => ?_) (fun cdv A outer s H vs Q E hr h => ?_)
  · obtain ⟨z, p, l, rfl, _⟩ := h
    rfl
  · obtain ⟨z, p, l, rfl, hp, q⟩ := h
    refine ⟨_, (pss_one (ps_ret (pe_and (pe_callB call_isK (by rfl) (z_isinstance T) bb_isinstance (pa_cons (pv 0) (pa_cons (pe_bltn (v := .ty "str") (by rfl) (z_str T) bb_str rfl) pa_nil))) (pe_one (pe_cmpR op_in_seq (pv 0) (pv 1) (by rfl)))))), ?_⟩
    refine ⟨_, rfl, _, "str", "str", rfl, .base (.str _), by decide, by decide, _, rfl, iteT ⟨_, rfl, _, rfl, p, _, rfl, .inl (.inl (.inl hp)), rfl, flat_strs _, ?_⟩⟩
    show Q (.bl (inV (.str z) (l.map V.str))) _
    rw [in_strs]
    exact q
/-! ### is_name -/
def sp_is_name : Sp := fun vs H Q _ => ∃ z : Str, vs = [.str z] ∧ Nm z ∧ ∀ H', Same H H' → Q (.bl true) H'
theorem cal_is_name (T : Tp K mg) : Cal P w K mg base 2 "is_name" sp_is_name := by
  obtain ⟨fd, F⟩ := f_is_name T
  refine cal_of F (g_is_name T) (b_is_name F) sc_is_name (fun vs H Q E h => ?_) (fun cdv A outer s H vs Q E hr h => ?_)
  · obtain ⟨z, rfl, _⟩ := h
    rfl
  · obtain ⟨z, rfl, ⟨n1, n2, n3⟩, q⟩ := h
    refine ⟨_, (pss_cons (ps_if (PW.pt (pw_or (pt_not (pt_val (pe_callB call_isK (by rfl) (z_isinstance T) bb_isinstance (pa_cons (pv 0) (pa_cons (pe_bltn (v := .ty "str") (by rfl) (z_str T) bb_str rfl) pa_nil))))) (pw_or1 (pt_not (pt_chain op_le op_le pe_int (pe_callB call_len_str (by rfl) (z_len T) bb_len (pa_cons (pv 0) pa_nil)) (C8.pe_gc (by rfl) (c_LONGEST_NAME T))))))) (pss_one (ps_ret pe_bl)) pss_nil)
      (pss_one (ps_ret (pe_callB (cr_all rfl) (by rfl) (z_all T) bb_all (pa_cons (pe_lc (own := [("letter", 1)]) (g := gName 1) (tt := tYes) rfl sc_is_name.nd (pi_str (pv 0)) (blkOk_by (N := N_is_name) (sc := defScope s_is_name) (by decide +kernel)) (fun _ _ _ _ _ => (pg_name (i := 1) sc_is_name.nd rfl (.inl rfl))) (fun _ _ _ _ _ => pts_nil) (fun _ _ _ _ _ => (pe_cmpR op_in_sign (pv 1) (C8.pe_gc (by rfl) (c_LETTERS T)) (by rfl)))) pa_nil))))), ?_⟩
    refine ⟨_, rfl, _, "str", "str", rfl, .base (.str _), by decide, by decide, _, rfl, ?_⟩
    refine iteF ⟨_, rfl, _, rfl, Nat.le_trans n2 (by decide), _, _, rfl, rfl, _, rfl, ?_⟩
    have e1 : decide ((1 : Int) ≤ (z.length : Int)) = true := decide_eq_true (by omega)
    rw [e1]
    refine iteT ⟨_, _, rfl, rfl, _, rfl, ?_⟩
    have e2 : decide ((z.length : Int) ≤ 8) = true := decide_eq_true (by omega)
    rw [e2]
    refine iteF ?_
    refine ⟨_, rfl, _, rfl, fun D nD => ?_⟩
    refine lc_it walk_str (fun i H1 => Same H H1 ∧ H1 D = some (.lst ((List.replicate i true).map V.bl))) ⟨same_upd nD, upd_same⟩ (fun _ _ _ _ => trivial) ?_ ?_
    · rintro i x H1 H2 hi ⟨s1, d1⟩ ⟨rfl, c, hc, rfl⟩
      refine ⟨rfl, yes_i (iteT ⟨_, rfl, c, letters, rfl, rfl, ?_⟩)⟩
      have hcm : c ∈ z.cps.toList := by
        obtain ⟨hi', hc'⟩ := Array.getElem?_eq_some_iff.mp hc
        rw [← hc']
        exact Array.mem_toList_iff.mpr (Array.getElem_mem hi')
      refine ⟨_, d1, ?_, ?_, ?_⟩
      · rw [List.length_map, List.length_replicate]
        have : z.cps.size = z.length := rfl
        exact small1000 (by omega)
      · exact fun b o e => by
          rw [upd_ne (ne_of_none e nD)]
          exact s1 b o e
      · rw [upd_same, decide_eq_true (n3 c hcm), List.replicate_succ', List.map_append]
        rfl
    · rintro H1 ⟨s1, d1⟩
      refine ⟨D, List.replicate z.cps.size true, rfl, .inl (.inl d1), ?_⟩
      rw [show (List.replicate z.cps.size true).all id = true by simp]
      exact q H1 s1
end
end Tw

set_option maxHeartbeats 4000000
namespace Tw
open PySem PySem.Spec PyProof.Rows L2
/-! ### attributes stored -/
theorem ne_mb : ¬ (("by" : Str) = "moment_rows") := by decide +kernel
theorem ne_sb : ¬ (("by" : Str) = "span_rows") := by decide +kernel
theorem ne_tb : ¬ (("by" : Str) = "tie_rows") := by decide +kernel
theorem ne_sm : ¬ (("moment_rows" : Str) = "span_rows") := by decide +kernel
theorem ne_tm : ¬ (("moment_rows" : Str) = "tie_rows") := by decide +kernel
theorem ne_ts : ¬ (("span_rows" : Str) = "tie_rows") := by decide +kernel
theorem pf0 {v : V} : putF "by" v ([] : List (Str × V)) = ([("by", v)] : List (Str × V)) := rfl
theorem pf1 {v x : V} : putF "moment_rows" v ([("by", x)] : List (Str × V)) = ([("by", x), ("moment_rows", v)] : List (Str × V)) := by
  simp only [putF, if_neg ne_mb]
theorem pf2 {v x y : V} : putF "span_rows" v ([("by", x), ("moment_rows", y)] : List (Str × V)) = ([("by", x), ("moment_rows", y), ("span_rows", v)] : List (Str × V)) := by
  simp only [putF, if_neg ne_sb, if_neg ne_sm]
theorem pf3 {v x y z : V} : putF "tie_rows" v ([("by", x), ("moment_rows", y), ("span_rows", z)] : List (Str × V)) = ([("by", x), ("moment_rows", y), ("span_rows", z), ("tie_rows", v)] : List (Str × V)) := by
  simp only [putF, if_neg ne_tb, if_neg ne_tm, if_neg ne_ts]
theorem wf_pm {l : Int} {a b c d : Addr} : putF "moment_rows" (.ref d) (wf l a b c) = wf l d b c := by
  unfold wf
  simp only [putF, if_neg ne_mb, if_true]
theorem wf_ps {l : Int} {a b c d : Addr} : putF "span_rows" (.ref d) (wf l a b c) = wf l a d c := by
  unfold wf
  simp only [putF, if_neg ne_sb, if_neg ne_sm, if_true]
theorem wf_pt {l : Int} {a b c d : Addr} : putF "tie_rows" (.ref d) (wf l a b c) = wf l a b d := by
  unfold wf
  simp only [putF, if_neg ne_tb, if_neg ne_tm, if_neg ne_ts, if_true]
theorem up_eq {H : Hp} {p : Addr} {o u : HO} (h : o = u) : (upd H p o) p = some u := by
  rw [upd_same, h]
section
variable {P : Program} {w : World} {K : PySem.W.Frag} {mg : Str → Option Value} {base : Heap}
abbrev CW (K : PySem.W.Frag) : Addr := He.ga K "Web"
/-! ### Web.__init__ -/
def sp_init (K : PySem.W.Frag) : Sp := fun vs H Q _ => ∃ (p dx : Addr) (l : Int), vs = [.ref p, .int l] ∧ H p = some (.ins (CW K) dx []) ∧ 1 ≤ l ∧ l ≤ 1000 ∧
  ∀ (a b c : Addr) (H' : Hp), (∀ x o, H x = some o → x ≠ p → H' x = some o) → H' p = some (.ins (CW K) dx (wf l a b c)) → H' a = some (.tup []) → H' b = some (.tup []) → H' c = some (.tup []) → Q .non H'
theorem fn_init (T : Tp K mg) {fd : FuncData} (F : FunD K "__init__" "Web.__init__" (defArgs s_Web_UinitU) (defBody s_Web_UinitU) (defScope s_Web_UinitU) [(V.int 100 : V)] [] (He.ma K (He.ga K "Web") "__init__") fd) :
    FnOk P w K mg base CX0 3 (He.ma K (He.ga K "Web") "__init__") fd ["self", "by"] (sp_init K) := by
  refine fnok_of F sc_Web_UinitU (fun vs H Q E h => ?_) (fun cdv A outer s H vs Q E hr h => ?_)
  · obtain ⟨p, dx, l, rfl, _⟩ := h
    rfl
  · obtain ⟨p, dx, l, rfl, hp, l1, l2, q⟩ := h
    refine ⟨_, (pss_cons (ps_if (pt_not (pt_val (C8.pe_c (cal_is_whole T) hr (by decide) rfl (pa_cons (pv 1) (pa_cons pe_int (pa_cons (C8.pe_gc (by rfl) (c_MOST_BY T)) pa_nil)))))) (pss_one ps_never) pss_nil)
      (pss_cons (ps_fld (pv 0) (pv 1) rfl)
      (pss_cons (ps_fld (pv 0) (pe_tup pa_nil) rfl)
      (pss_cons (ps_fld (pv 0) (pe_tup pa_nil) rfl)
      (pss_one (ps_fld (pv 0) (pe_tup pa_nil) rfl)))))), ?_⟩
    refine ⟨_, rfl, l, 1, 1000, rfl, _, rfl, ?_⟩
    rw [decide_eq_true (show (1 : Int) ≤ l ∧ l ≤ 1000 from ⟨l1, l2⟩)]
    refine iteF ?_
    -- self.by = by
    refine ⟨_, rfl, _, rfl, p, CW K, dx, [], rfl, hp, cl_Web T, na_by T, (by show 0 < 1000; decide), ?_⟩
    -- the three rows
    refine ⟨Nat.zero_le _, fun a na => ?_⟩
    have npa : p ≠ a := fun e => by
      rw [← e, upd_same] at na
      cases na
    refine ⟨_, rfl, p, CW K, dx, _, rfl, (by rw [upd_ne npa]; exact up_eq rfl), cl_Web T, na_moment_rows T, (by show 1 < 1000; decide), ?_⟩
    refine ⟨Nat.zero_le _, fun b nb => ?_⟩
    have npb : p ≠ b := fun e => by
      rw [← e, upd_same] at nb
      cases nb
    have nab : a ≠ b := fun e => by
      rw [← e, upd_ne npa.symm, upd_same] at nb
      cases nb
    refine ⟨_, rfl, p, CW K, dx, _, rfl, (by rw [upd_ne npb]; exact up_eq rfl), cl_Web T, na_span_rows T, (by rw [pf0, pf1]; show 2 < 1000; decide), ?_⟩
    refine ⟨Nat.zero_le _, fun c nc => ?_⟩
    have npc : p ≠ c := fun e => by
      rw [← e, upd_same] at nc
      cases nc
    have nbc : b ≠ c := fun e => by
      rw [← e, upd_ne npb.symm, upd_same] at nc
      cases nc
    have nac : a ≠ c := fun e => by
      rw [← e, upd_ne npa.symm, upd_ne nab, upd_ne npa.symm, upd_same] at nc
      cases nc
    refine ⟨_, rfl, p, CW K, dx, _, rfl, (by rw [upd_ne npc]; exact up_eq rfl), cl_Web T, na_tie_rows T, (by rw [pf0, pf1, pf2]; show 3 < 1000; decide), ?_⟩
    refine q a b c _ (fun x o e hx => ?_) (up_eq (by rw [pf0, pf1, pf2, pf3]; rfl)) ?_ ?_ ?_
    · have ea : (upd H p (.ins (CW K) dx (putF "by" (.int l) []))) x = some o := by
        rw [upd_ne hx]
        exact e
      have nxa : x ≠ a := ne_of_none ea na
      have eb : (upd (upd (upd H p (.ins (CW K) dx (putF "by" (.int l) []))) a (.tup [])) p (.ins (CW K) dx (putF "moment_rows" (.ref a) (putF "by" (.int l) [])))) x = some o := by
        rw [upd_ne hx, upd_ne nxa]
        exact ea
      have nxb : x ≠ b := ne_of_none eb nb
      have nxc : x ≠ c := ne_of_none (by rw [upd_ne hx, upd_ne nxb]; exact eb) nc
      rw [upd_ne hx, upd_ne nxc, upd_ne hx, upd_ne nxb]
      exact eb
    · rw [upd_ne npa.symm, upd_ne nac, upd_ne npa.symm, upd_ne nab, upd_ne npa.symm, upd_same]
    · rw [upd_ne npb.symm, upd_ne nbc, upd_ne npb.symm, upd_same]
    · rw [upd_ne npc.symm, upd_same]
theorem mak_Web (T : Tp K mg) : Mak P w K mg base 3 "Web" (CW K) (sp_init K) [] := by
  obtain ⟨fd, F⟩ := f_Web_UinitU T
  obtain ⟨ds, hv, hb⟩ := F.binds1 (ps := ["self", "by"]) 2 1 (by simp) rfl fun T kV doc pm an cdv ct us its h1 h2 => match us, its, h1, h2 with
    | [_, _], [_], _, _ => ⟨_, rfl, rfl⟩
  exact ⟨_, fd, ["self", "by"], ds, mk_Web T, fn_init T F, g_Web T, hb, hv⟩
theorem mak0_Web (T : Tp K mg) : Mak P w K mg base 3 "Web" (CW K) (sp_init K) [.int 100] := by
  obtain ⟨fd, F⟩ := f_Web_UinitU T
  obtain ⟨ds, hv, hb⟩ := F.binds1 (ps := ["self", "by"]) 1 0 (by simp) rfl fun T kV doc pm an cdv ct us its h1 h2 => match us, its, h1, h2 with
    | [_], [_], _, _ => ⟨_, rfl, rfl⟩
  exact ⟨_, fd, ["self", "by"], ds, mk_Web T, fn_init T F, g_Web T, hb, hv⟩
end
end Tw

set_option maxHeartbeats 4000000
namespace Tw
open PySem PySem.Spec PyProof.Rows L2
theorem Same.upd' {H H1 : Hp} {p : Addr} {o : HO} (s : Same H H1) (h : H1 p = none) : Same H (upd H1 p o) := s.trans (same_upd h)
/-- a new list is written again: what was ahead of it stays -/
theorem same_put {H H1 : Hp} {D : Addr} {o : HO} (s : Same H H1) (nD : H D = none) : Same H (upd H1 D o) := fun b x e => by
  rw [upd_ne (ne_of_none e nD)]
  exact s b x e
section
variable {P : Program} {w : World} {K : PySem.W.Frag} {mg : Str → Option Value} {base : Heap}
/-! ### woven -/
def sp_woven (K : PySem.W.Frag) : Sp := fun vs H Q _ => ∃ (m : Md) (a b c : Addr) (ws bs : List V), vs = [.int m.last, .ref a, .ref b, .ref c] ∧ H a = some (.tup (m.own.map V.str)) ∧ H b = some (.tup ws) ∧ Rows H ws (m.wd.map Wd.row) ∧ H c = some (.tup bs) ∧ Rows H bs (m.bd.map Bd.row) ∧
  (m.own.length ≤ 10 ∧ m.wd.length ≤ 4 ∧ m.bd.length ≤ 40) ∧ (1 ≤ m.last ∧ m.last ≤ 1000) ∧ ∀ (p : Addr) (H' : Hp), Same H H' → H p = none → WebAt (CW K) H' p m → Q (.ref p) H'
theorem cal_woven (T : Tp K mg) : Cal P w K mg base 5 "woven" (sp_woven K) := by
  obtain ⟨fd, F⟩ := f_woven T
  refine cal_of F (g_woven T) (b_woven F) sc_woven (fun vs H Q E h => ?_) (fun cdv A outer s H vs Q E hr h => ?_)
  · obtain ⟨m, a, b, c, ws, bs, rfl, _⟩ := h
    rfl
  · obtain ⟨m, a, b, c, ws, bs, rfl, ha, hb, rb, hc, rc, hl, hla, q⟩ := h
    refine ⟨_, (pss_cons (ps_set (i := 4) sc_woven.nd rfl (.inl rfl) (C8.pe_mk (mak_Web T) hr (by decide) rfl (pa_cons (pv 0) pa_nil)))
      (pss_cons (ps_fld (pv 4) (pe_callTy call_tuple_of (by rfl) (z_tuple T) bb_tuple (pa_cons (pv 1) pa_nil)) rfl)
      (pss_cons (ps_fld (pv 4) (pe_callTy call_tuple_of (by rfl) (z_tuple T) bb_tuple (pa_cons (pv 2) pa_nil)) rfl)
      (pss_cons (ps_fld (pv 4) (pe_callTy call_tuple_of (by rfl) (z_tuple T) bb_tuple (pa_cons (pv 3) pa_nil)) rfl)
      (pss_one (ps_ret (pv 4))))))), ?_⟩
    refine ⟨_, rfl, fun x dx nx ndx ne => ⟨x, dx, m.last, rfl, upd_same, hla.1, hla.2, fun a0 b0 c0 H1 kp hp ha0 hb0 hc0 => ⟨rfl, ?_⟩⟩⟩
    have s1 : Same H H1 := Same.made nx ndx kp
    have nax : a ≠ x := ne_of_none ha nx
    have nbx : b ≠ x := ne_of_none hb nx
    have ncx : c ≠ x := ne_of_none hc nx
    refine ⟨_, rfl, a, _, rfl, .inr ⟨.inl (.inl (s1 _ _ ha)), _, rfl, x, CW K, dx, _, rfl, hp, cl_Web T, na_moment_rows T, (by show 4 < 1000; decide), ?_⟩⟩
    refine ⟨_, rfl, b, _, rfl, .inr ⟨.inl (.inl (by rw [upd_ne nbx]; exact s1 _ _ hb)), _, rfl, x, CW K, dx, _, rfl, up_eq (by rw [wf_pm]), cl_Web T, na_span_rows T, (by show 4 < 1000; decide), ?_⟩⟩
    refine ⟨_, rfl, c, _, rfl, .inr ⟨.inl (.inl (by rw [upd_ne ncx, upd_ne ncx]; exact s1 _ _ hc)), _, rfl, x, CW K, dx, _, rfl, up_eq (by rw [wf_ps]), cl_Web T, na_tie_rows T, (by show 4 < 1000; decide), ?_⟩⟩
    have s2 : Same H (upd (upd (upd H1 x (.ins (CW K) dx (putF "moment_rows" (.ref a) (wf m.last a0 b0 c0)))) x (.ins (CW K) dx (putF "span_rows" (.ref b) (wf m.last a b0 c0)))) x (.ins (CW K) dx (putF "tie_rows" (.ref c) (wf m.last a b c0)))) := fun y o e => by
      have ny : y ≠ x := ne_of_none e nx
      rw [upd_ne ny, upd_ne ny, upd_ne ny]
      exact s1 _ _ e
    refine ⟨_, rfl, q x _ s2 nx ⟨⟨dx, a, b, c, ws, bs, up_eq (by rw [wf_pt]), s2 _ _ ha, s2 _ _ hb, rb.keep (Kt.of s2), s2 _ _ hc, rc.keep (Kt.of s2)⟩, hl, hla⟩⟩
/-! ### moments, spans, ties -/
def sp_moments (K : PySem.W.Frag) : Sp := fun vs H Q _ => ∃ (p : Addr) (m : Md), vs = [.ref p] ∧ WebAt (CW K) H p m ∧ ∀ q, H q = none → Q (.ref q) (upd H q (.lst (m.own.map V.str)))
theorem met_Web_moments (T : Tp K mg) : Met P w K mg base 2 (CW K) "moments" (sp_moments K) := by
  obtain ⟨fd, F⟩ := f_Web_moments T
  refine met_of F (cl_Web T) (me_Web_moments T) (b_Web_moments F) sc_Web_moments (fun vs H Q E h => ?_) (fun cdv A outer s H vs Q E hr h => ?_)
  · obtain ⟨p, m, rfl, _⟩ := h
    rfl
  · obtain ⟨p, m, rfl, W, q⟩ := h
    obtain ⟨dx, a, b, c, ws, bs, h1, h2, h3, h4, h5, h6⟩ := W.ex
    refine ⟨_, (pss_one (ps_ret (pe_callTy call_list_of (by rfl) (z_list T) bb_list (pa_cons (pe_fld (pv 0) rfl) pa_nil)))), ?_⟩
    exact ⟨_, rfl, p, CW K, dx, _, _, rfl, h1, cl_Web T, na_moment_rows T, wf_m, a, _, rfl, .inr (.inl (.inl h2)), q⟩
def sp_spans (K : PySem.W.Frag) : Sp := fun vs H Q _ => ∃ (p : Addr) (m : Md), vs = [.ref p] ∧ WebAt (CW K) H p m ∧ ∀ ws q, Rows H ws (m.wd.map Wd.row) → H q = none → Q (.ref q) (upd H q (.lst ws))
theorem met_Web_spans (T : Tp K mg) : Met P w K mg base 2 (CW K) "spans" (sp_spans K) := by
  obtain ⟨fd, F⟩ := f_Web_spans T
  refine met_of F (cl_Web T) (me_Web_spans T) (b_Web_spans F) sc_Web_spans (fun vs H Q E h => ?_) (fun cdv A outer s H vs Q E hr h => ?_)
  · obtain ⟨p, m, rfl, _⟩ := h
    rfl
  · obtain ⟨p, m, rfl, W, q⟩ := h
    obtain ⟨dx, a, b, c, ws, bs, h1, h2, h3, h4, h5, h6⟩ := W.ex
    refine ⟨_, (pss_one (ps_ret (pe_callTy call_list_of (by rfl) (z_list T) bb_list (pa_cons (pe_fld (pv 0) rfl) pa_nil)))), ?_⟩
    exact ⟨_, rfl, p, CW K, dx, _, _, rfl, h1, cl_Web T, na_span_rows T, wf_s, b, _, rfl, .inr (.inl (.inl h3)), fun l => q ws l h4⟩
def sp_ties (K : PySem.W.Frag) : Sp := fun vs H Q _ => ∃ (p : Addr) (m : Md), vs = [.ref p] ∧ WebAt (CW K) H p m ∧ ∀ bs q, Rows H bs (m.bd.map Bd.row) → H q = none → Q (.ref q) (upd H q (.lst bs))
theorem met_Web_ties (T : Tp K mg) : Met P w K mg base 2 (CW K) "ties" (sp_ties K) := by
  obtain ⟨fd, F⟩ := f_Web_ties T
  refine met_of F (cl_Web T) (me_Web_ties T) (b_Web_ties F) sc_Web_ties (fun vs H Q E h => ?_) (fun cdv A outer s H vs Q E hr h => ?_)
  · obtain ⟨p, m, rfl, _⟩ := h
    rfl
  · obtain ⟨p, m, rfl, W, q⟩ := h
    obtain ⟨dx, a, b, c, ws, bs, h1, h2, h3, h4, h5, h6⟩ := W.ex
    refine ⟨_, (pss_one (ps_ret (pe_callTy call_list_of (by rfl) (z_list T) bb_list (pa_cons (pe_fld (pv 0) rfl) pa_nil)))), ?_⟩
    exact ⟨_, rfl, p, CW K, dx, _, _, rfl, h1, cl_Web T, na_tie_rows T, wf_t, c, _, rfl, .inr (.inl (.inl h5)), fun l => q bs l h6⟩
/-! ### points -/
def sp_points (K : PySem.W.Frag) : Sp := fun vs H Q _ => ∃ (p : Addr) (m : Md), vs = [.ref p] ∧ WebAt (CW K) H p m ∧ ∀ q H', Same H H' → H q = none → H' q = some (.lst (m.pts.map V.str)) → Q (.ref q) H'
theorem met_Web_points (T : Tp K mg) : Met P w K mg base 3 (CW K) "points" (sp_points K) := by
  obtain ⟨fd, F⟩ := f_Web_points T
  refine met_of F (cl_Web T) (me_Web_points T) (b_Web_points F) sc_Web_points (fun vs H Q E h => ?_) (fun cdv A outer s H vs Q E hr h => ?_)
  · obtain ⟨p, m, rfl, _⟩ := h
    rfl
  · obtain ⟨p, m, rfl, W, q⟩ := h
    obtain ⟨dx, a, b, c, ws, bs, h1, h2, h3, h4, h5, h6⟩ := W.ex
    have hl := W.len
    have hw : ws.length = m.wd.length := by
      rw [h4.len, List.length_map]
    refine ⟨_, (pss_cons (ps_setLc (i := 1) (own := [("span", 2)]) (g := gName 2) (tt := tYes) rfl sc_Web_points.nd rfl rfl (sw_true rfl rfl rfl (by decide +kernel)) (pi_tup (pe_fld (pv 0) rfl)) (blkOk_by (N := N_Web_points) (sc := defScope s_Web_points) (by decide +kernel)) (fun _ _ _ _ _ => (pg_name (i := 2) sc_Web_points.nd rfl (.inl rfl))) (fun _ _ _ _ _ => pts_nil) (fun _ _ _ _ _ => (pe_ix (ix_tupK (K := K) rfl) (pv 2) pe_int (fun _ _ => rfl))))
      (pss_one (ps_ret (pe_op op_cat (pe_op op_cat (pe_lst (pa_cons (C8.pe_gc (by rfl) (c_START T)) pa_nil)) (C8.pe_mt0 (met_Web_moments T) hr (by decide) (pv 0))) (pv 1))))), ?_⟩
    refine ⟨_, rfl, p, CW K, dx, _, _, rfl, h1, cl_Web T, na_span_rows T, wf_s, b, rfl, ⟨_, .inl (.inl h3)⟩, fun D nD => ?_⟩
    refine lc_tup (K := K) (a := b) (xs := ws) (fun i H1 => Same H H1 ∧ H1 D = some (.lst (((m.wd.map (·.en)).take i).map V.str))) ⟨same_upd nD, upd_same⟩ (fun i H1 _ ⟨s1, _⟩ => .inl (.inl (s1 _ _ h3))) ?_ ?_
    · rintro i x H1 hx ⟨s1, d1⟩
      obtain ⟨t, r, rfl, hr', ht⟩ := h4.at hx
      rw [List.getElem?_map] at hr'
      cases e : m.wd[i]? with
      | none =>
        rw [e] at hr'
        cases hr'
      | some y =>
        rw [e] at hr'
        cases hr'
        have hi : i < m.wd.length := (List.getElem?_eq_some_iff.mp e).1
        refine ⟨rfl, yes_i (iteT ⟨_, rfl, t, _, 0, _, rfl, rfl, .inl (.inl (s1 _ _ ht)), atI_nat (j := 0) rfl, _, d1, ?_, ?_, ?_⟩)⟩
        · rw [List.length_map, List.length_take]
          exact small1000 (by omega)
        · exact same_put s1 nD
        · rw [upd_same, List.take_add_one, List.getElem?_map, e, List.map_append]
          rfl
    · rintro H1 ⟨s1, d1⟩
      have en : (m.wd.map (·.en)).take ws.length = m.wd.map (·.en) := List.take_of_length_le (by rw [List.length_map]; omega)
      rw [en] at d1
      -- [START] + self.moments() + ends
      refine ⟨by show 1 ≤ sizeLine; decide, fun l nl => ?_⟩
      have s2 : Same H1 (upd H1 l (.lst [.str "start"])) := same_upd nl
      have W2 := (W.same s1).same s2
      obtain ⟨dx2, _, _, _, _, _, g1, _⟩ := W2.ex
      refine ⟨_, rfl, p, _, _, rfl, g1, wf_no (by decide +kernel), p, m, rfl, W2, fun k nk => ?_⟩
      have nlk : l ≠ k := fun z => by
        rw [← z, upd_same] at nk
        cases nk
      have s3 := same_upd (o := .lst (m.own.map V.str)) nk
      refine ⟨l, k, _, _, rfl, rfl, (by rw [upd_ne nlk]; exact upd_same), upd_same, ?_, fun r nr => ?_⟩
      · rw [List.length_map]
        exact Nat.le_of_lt (small1000 (by show 1 + _ ≤ 1000; omega))
      · have s4 := same_upd (o := .lst ([.str "start"] ++ m.own.map V.str)) nr
        have nDr : D ≠ r := ne_of_none (s3 _ _ (s2 _ _ d1)) nr
        refine ⟨_, rfl, r, D, _, _, rfl, rfl, upd_same, (s4 _ _ (s3 _ _ (s2 _ _ d1))), ?_, fun u nu => ?_⟩
        · rw [List.length_append, List.length_map, List.length_map, List.length_map]
          exact Nat.le_of_lt (small1000 (by show 1 + _ + _ ≤ 1000; omega))
        · have s5 := same_upd (o := .lst ([.str "start"] ++ m.own.map V.str ++ (m.wd.map (·.en)).map V.str)) nu
          have sa := ((s1.trans s2).trans s3).trans s4
          refine q u _ (sa.trans s5) (sa.free nu) ?_
          rw [upd_same]
          unfold Md.pts
          rw [List.map_cons, List.map_append]
          rfl
end
end Tw

set_option maxHeartbeats 4000000
namespace Tw
open PySem PySem.Spec PyProof.Rows L2
/-- the two bounds of a tie, good -/
structure BOk (bo to : Option Int) : Prop where
  one : ¬ (bo = none ∧ to = none)
  lo : ∀ x, bo = some x → -1000 ≤ x ∧ x ≤ 1000
  hi : ∀ x, to = some x → -1000 ≤ x ∧ x ≤ 1000
  le : ∀ x y, bo = some x → to = some y → x ≤ y
def tls (bo to : Option Int) : List Int := bo.toList ++ to.toList
theorem BOk.sh {bo to : Option Int} (h : BOk bo to) : (∀ x ∈ tls bo to, -1000 ≤ x ∧ x ≤ 1000) ∧ ((∃ u, tls bo to = [u]) ∨ ∃ u v, tls bo to = [u, v] ∧ u ≤ v) := by
  cases bo with
  | none =>
    cases to with
    | none => exact absurd ⟨rfl, rfl⟩ h.one
    | some y =>
      refine ⟨fun x hx => ?_, .inl ⟨y, rfl⟩⟩
      have e : x = y := by simpa [tls] using hx
      rw [e]
      exact h.hi y rfl
  | some x0 =>
    cases to with
    | none =>
      refine ⟨fun x hx => ?_, .inl ⟨x0, rfl⟩⟩
      have e : x = x0 := by simpa [tls] using hx
      rw [e]
      exact h.lo x0 rfl
    | some y =>
      refine ⟨fun x hx => ?_, .inr ⟨x0, y, rfl, h.le x0 y rfl rfl⟩⟩
      have e : x = x0 ∨ x = y := by simpa [tls] using hx
      rcases e with e | e
      · rw [e]
        exact h.lo x0 rfl
      · rw [e]
        exact h.hi y rfl
theorem oV_non {o : Option Int} : decide (oV o = V.non) = o.isNone := by
  cases o <;> simp [oV]
section
variable {P : Program} {w : World} {K : PySem.W.Frag} {mg : Str → Option Value} {base : Heap}
/-! ### are_bounds -/
def sp_are_bounds : Sp := fun vs H Q _ => ∃ bo to : Option Int, vs = [oV bo, oV to] ∧ BOk bo to ∧ ∀ H', Same H H' → Q (.bl true) H'
theorem cal_are_bounds (T : Tp K mg) : Cal P w K mg base 3 "are_bounds" sp_are_bounds := by
  obtain ⟨fd, F⟩ := f_are_bounds T
  refine cal_of F (g_are_bounds T) (b_are_bounds F) sc_are_bounds (fun vs H Q E h => ?_) (fun cdv A outer s H vs Q E hr h => ?_)
  · obtain ⟨bo, to, rfl, _⟩ := h
    rfl
  · obtain ⟨bo, to, rfl, B, q⟩ := h
    obtain ⟨hin, hsh⟩ := B.sh
    refine ⟨_, (pss_cons (ps_setLc (i := 2) (own := [("bound", 3)]) (g := gName 3) rfl sc_are_bounds.nd rfl rfl (sw_true rfl rfl rfl (by decide +kernel)) (pi_tup (pe_tup (pa_cons (pv 0) (pa_cons (pv 1) pa_nil)))) (blkOk_by (N := N_are_bounds) (sc := defScope s_are_bounds) (by decide +kernel)) (fun _ _ _ _ _ => (pg_name (i := 3) sc_are_bounds.nd rfl (.inl rfl))) (fun _ _ _ _ _ => (pts_one (pt_cmpR op_notN (pv 3) pe_non (nomark _)))) (fun _ _ _ _ _ => (pv 3)))
      (pss_cons (ps_if (pt_not (pt_val (pe_callB (cr_all rfl) (by rfl) (z_all T) bb_all (pa_cons (pe_lc (own := [("bound", 3)]) (g := gName 3) (tt := tYes) rfl sc_are_bounds.nd (pi_list (pv 2)) (blkOk_by (N := N_are_bounds) (sc := defScope s_are_bounds) (by decide +kernel)) (fun _ _ _ _ _ => (pg_name (i := 3) sc_are_bounds.nd rfl (.inl rfl))) (fun _ _ _ _ _ => pts_nil) (fun _ _ _ _ _ => (C8.pe_c (cal_is_whole T) hr (by decide) rfl (pa_cons (pv 3) (pa_cons (pe_un un_neg (C8.pe_gc (by rfl) (c_MOST_BOUND T))) (pa_cons (C8.pe_gc (by rfl) (c_MOST_BOUND T)) pa_nil)))))) pa_nil)))) (pss_one (ps_ret pe_bl)) pss_nil)
      (pss_one (ps_ret (pe_and (pe_cmpR op_gt (pe_callB call_len_seq (by rfl) (z_len T) bb_len (pa_cons (pv 2) pa_nil)) pe_int (nomark _)) (pe_one (pe_cmpR op_le (pe_ix ix_list (pv 2) pe_int (fun _ _ => rfl)) (pe_ix ix_list (pv 2) (pe_un un_neg pe_int) (fun _ _ => rfl)) (nomark _)))))))), ?_⟩
    refine ⟨_, rfl, _, rfl, (by show 2 ≤ sizeLine; decide), fun t nt => ?_⟩
    have s1 : Same H (upd H t (.tup [oV bo, oV to])) := same_upd nt
    refine ⟨t, rfl, ⟨_, .inl (.inl upd_same)⟩, fun D nD => ?_⟩
    have nDH : H D = none := s1.free nD
    refine lc_tup (K := K) (a := t) (xs := [oV bo, oV to]) (fun i H1 => Same (upd H t (.tup [oV bo, oV to])) H1 ∧ H1 D = some (.lst ((((([bo, to] : List (Option Int)).take i).filterMap id)).map V.int)))
      ⟨same_upd nD, upd_same⟩ (fun i H1 _ ⟨s2, _⟩ => .inl (.inl (s2 _ _ upd_same))) ?_ ?_
    · rintro i x H1 hx ⟨s2, d1⟩
      obtain ⟨o, eo, ex⟩ : ∃ o : Option Int, ([bo, to] : List (Option Int))[i]? = some o ∧ x = oV o := by
        match i, hx with
        | 0, hx => exact ⟨bo, rfl, (Option.some.inj hx).symm⟩
        | 1, hx => exact ⟨to, rfl, (Option.some.inj hx).symm⟩
      subst ex
      have hi : i < 2 := (List.getElem?_eq_some_iff.mp eo).1
      have e2 : (([bo, to] : List (Option Int)).take (i + 1)).filterMap id = (([bo, to] : List (Option Int)).take i).filterMap id ++ o.toList := by
        rw [List.take_add_one, eo, List.filterMap_append]
        cases o <;> rfl
      refine ⟨rfl, _, rfl, rfl, _, rfl, ?_⟩
      rw [oV_non]
      cases o with
      | none =>
        refine iteF ⟨s2, ?_⟩
        rw [e2, d1]
        show _ = some (HO.lst (List.map V.int (_ ++ [])))
        rw [List.append_nil]
      | some z =>
        refine iteT ⟨_, rfl, _, d1, ?_, ?_, ?_⟩
        · rw [List.length_map]
          refine Nat.lt_of_le_of_lt (List.length_filterMap_le _ _) ?_
          rw [List.length_take]
          exact small1000 (by show min i 2 ≤ 1000; omega)
        · exact same_put s2 nD
        · rw [upd_same, e2, List.map_append]
          rfl
    · rintro H1 ⟨s2, d1⟩
      have d2 : H1 D = some (.lst ((tls bo to).map V.int)) := by
        rw [d1]
        cases bo <;> cases to <;> rfl
      have s3 : Same H H1 := s1.trans s2
      have hlen : (tls bo to).length ≤ 2 := by
        rcases hsh with ⟨u, e⟩ | ⟨u, v, e, _⟩ <;> rw [e] <;> simp
      -- all([is_whole(..) for bound in told])
      refine ⟨_, rfl, D, rfl, ⟨_, .inl (.inl d2)⟩, fun L nL => ?_⟩
      have nLH : H L = none := s3.free nL
      have nDL : D ≠ L := ne_of_none d2 nL
      refine lc_list (K := K) (a := D) (xs := (tls bo to).map V.int) (fun i H2 => Same H H2 ∧ H2 D = some (.lst ((tls bo to).map V.int)) ∧ H2 L = some (.lst ((List.replicate i true).map V.bl)))
        ⟨s3.trans (same_upd nL), by rw [upd_ne nDL]; exact d2, upd_same⟩ (fun i H2 _ ⟨_, d, _⟩ => .inl (.inl d)) ?_ ?_
      · rintro i x H2 hx ⟨s4, d4, l4⟩
        rw [List.getElem?_map] at hx
        cases e : (tls bo to)[i]? with
        | none =>
          rw [e] at hx
          cases hx
        | some z =>
          rw [e] at hx
          cases hx
          have hi : i < (tls bo to).length := (List.getElem?_eq_some_iff.mp e).1
          have hz := hin z (List.mem_of_getElem? e)
          refine ⟨rfl, yes_i (iteT ⟨_, rfl, 1000, rfl, z, -1000, 1000, rfl, _, l4, ?_, ?_, ?_, ?_⟩)⟩
          · rw [List.length_map, List.length_replicate]
            exact small1000 (by omega)
          · exact same_put s4 nLH
          · rw [upd_ne nDL]
            exact d4
          · rw [upd_same, decide_eq_true hz, List.replicate_succ', List.map_append]
            rfl
      · rintro H2 ⟨s4, d4, l4⟩
        refine ⟨L, _, rfl, .inl (.inl l4), _, rfl, ?_⟩
        rw [show (List.replicate ((tls bo to).map V.int).length true).all id = true by simp]
        refine iteF ?_
        -- len(told) > 0 and told[0] <= told[-1]
        refine ⟨_, rfl, D, _, rfl, .inl (.inl (.inl d4)), _, 0, rfl, rfl, _, rfl, ?_⟩
        have fin : ∀ (u v : Int) (pre : List Int), (tls bo to)[0]? = some u → tls bo to = pre ++ [v] → u ≤ v → (if decide ((0 : Int) < ((tls bo to).map V.int).length) = true then
            tOp (rI0 fun i j => .bl (decide (i ≤ j))) (tOp (rIxL K) (tVar 2) (tC (.int 0))) (tOp (rIxL K) (tVar 2) (tUn (rU fun i => .int (-i)) (tC (.int 1)))) [some (oV bo), some (oV to), some (.ref D), none] H2 Q else Q (.bl false) H2) := by
          intro u v pre hu hv huv
          have h0 : 0 < (tls bo to).length := by
            rw [hv, List.length_append]
            exact Nat.succ_pos _
          rw [decide_eq_true (by rw [List.length_map]; omega)]
          have hz : (tls bo to).map V.int = pre.map V.int ++ [.int v] := by
            rw [hv, List.map_append]
            rfl
          refine iteT ⟨_, rfl, D, _, 0, .int u, rfl, rfl, .inl (.inl d4), atI_nat (j := 0) (by rw [List.getElem?_map, hu]; rfl), _, rfl, _, rfl, D, _, _, .int v, rfl, rfl, .inl (.inl d4), ?_, u, v, rfl, rfl, ?_⟩
          · rw [hz]
            exact atI_last _ _
          · show Q (.bl (decide (u ≤ v))) H2
            rw [decide_eq_true huv]
            exact q H2 s4
        rcases hsh with ⟨u, e⟩ | ⟨u, v, e, huv⟩
        · exact fin u u [] (by rw [e]; rfl) (by rw [e]; rfl) (Int.le_refl _)
        · exact fin u v [u] (by rw [e]; rfl) (by rw [e]; rfl) huv
/-! ### is_begin, need_free_name, need_point -/
def sp_is_begin (K : PySem.W.Frag) : Sp := fun vs H Q _ => ∃ (p : Addr) (m : Md) (z : Str), vs = [.ref p, .str z] ∧ WebAt (CW K) H p m ∧ (z = "start" ∨ z ∈ m.own) ∧ ∀ H', Same H H' → Q (.bl true) H'
theorem cal_is_begin (T : Tp K mg) : Cal P w K mg base 3 "is_begin" (sp_is_begin K) := by
  obtain ⟨fd, F⟩ := f_is_begin T
  refine cal_of F (g_is_begin T) (b_is_begin F) sc_is_begin (fun vs H Q E h => ?_) (fun cdv A outer s H vs Q E hr h => ?_)
  · obtain ⟨p, m, z, rfl, _⟩ := h
    rfl
  · obtain ⟨p, m, z, rfl, W, hz, q⟩ := h
    obtain ⟨dx, a, b, c, ws, bs, h1, _⟩ := W.ex
    refine ⟨_, (pss_one (ps_ret (C8.pe_c (cal_is_one_of T) hr (by decide) rfl (pa_cons (pv 1) (pa_cons (pe_op op_cat (pe_lst (pa_cons (C8.pe_gc (by rfl) (c_START T)) pa_nil)) (C8.pe_mt0 (met_Web_moments T) hr (by decide) (pv 0))) pa_nil))))), ?_⟩
    refine ⟨_, rfl, by show 1 ≤ sizeLine; decide, fun l nl => ?_⟩
    have s1 : Same H (upd H l (.lst [.str "start"])) := same_upd nl
    refine ⟨_, rfl, p, dx, _, rfl, s1 _ _ h1, wf_no (by decide +kernel), p, m, rfl, W.same s1, fun k nk => ?_⟩
    have nlk : l ≠ k := fun e => by
      rw [← e, upd_same] at nk
      cases nk
    have s2 := same_upd (o := .lst (m.own.map V.str)) nk
    refine ⟨l, k, _, _, rfl, rfl, (by rw [upd_ne nlk]; exact upd_same), upd_same, ?_, fun r nr => ?_⟩
    · rw [List.length_map]
      have hl := W.len
      exact Nat.le_of_lt (small1000 (by show 1 + _ ≤ 1000; omega))
    · have s3 := same_upd (o := .lst ([.str "start"] ++ m.own.map V.str)) nr
      refine ⟨z, r, "start" :: m.own, rfl, upd_same, ?_⟩
      rw [decide_eq_true (List.mem_cons.mpr hz)]
      exact q _ ((s1.trans s2).trans s3)
def sp_need_free_name (K : PySem.W.Frag) : Sp := fun vs H Q _ => ∃ (p : Addr) (m : Md) (z : Str), vs = [.ref p, .str z] ∧ WebAt (CW K) H p m ∧ Nm z ∧ ¬ z ∈ m.pts ∧ ∀ H', Same H H' → Q .non H'
theorem cal_need_free_name (T : Tp K mg) : Cal P w K mg base 4 "need_free_name" (sp_need_free_name K) := by
  obtain ⟨fd, F⟩ := f_need_free_name T
  refine cal_of F (g_need_free_name T) (b_need_free_name F) sc_need_free_name (fun vs H Q E h => ?_) (fun cdv A outer s H vs Q E hr h => ?_)
  · obtain ⟨p, m, z, rfl, _⟩ := h
    rfl
  · obtain ⟨p, m, z, rfl, W, hn, hz, q⟩ := h
    refine ⟨_, (pss_cons (ps_if (pt_not (pt_val (C8.pe_c (cal_is_name T) hr (by decide) rfl (pa_cons (pv 1) pa_nil)))) (pss_one ps_never) pss_nil)
      (pss_one (ps_if (pt_cmpR op_in_seq (pv 1) (C8.pe_mt0 (met_Web_points T) hr (by decide) (pv 0)) (by rfl)) (pss_one ps_never) pss_nil))), ?_⟩
    refine ⟨_, rfl, z, rfl, hn, fun H1 s1 => ⟨_, rfl, iteF ?_⟩⟩
    have W1 := W.same s1
    obtain ⟨dx, a, b, c, ws, bs, h1, _⟩ := W1.ex
    refine ⟨_, rfl, _, rfl, p, dx, _, rfl, h1, wf_no (by decide +kernel), p, m, rfl, W1, fun k H2 s2 nk ek => ?_⟩
    refine ⟨k, _, rfl, .inl (.inl (.inl ek)), rfl, flat_strs _, _, rfl, ?_⟩
    show if inV (.str z) (m.pts.map V.str) = true then _ else _
    rw [in_strs, decide_eq_false hz]
    exact iteF (q H2 (s1.trans s2))
def sp_need_point (K : PySem.W.Frag) : Sp := fun vs H Q _ => ∃ (p : Addr) (m : Md) (z : Str), vs = [.ref p, .str z] ∧ WebAt (CW K) H p m ∧ z ∈ m.pts ∧ ∀ H', Same H H' → Q .non H'
theorem cal_need_point (T : Tp K mg) : Cal P w K mg base 4 "need_point" (sp_need_point K) := by
  obtain ⟨fd, F⟩ := f_need_point T
  refine cal_of F (g_need_point T) (b_need_point F) sc_need_point (fun vs H Q E h => ?_) (fun cdv A outer s H vs Q E hr h => ?_)
  · obtain ⟨p, m, z, rfl, _⟩ := h
    rfl
  · obtain ⟨p, m, z, rfl, W, hz, q⟩ := h
    obtain ⟨dx, a, b, c, ws, bs, h1, _⟩ := W.ex
    refine ⟨_, (pss_one (ps_if (pt_not (pt_val (C8.pe_c (cal_is_one_of T) hr (by decide) rfl (pa_cons (pv 1) (pa_cons (C8.pe_mt0 (met_Web_points T) hr (by decide) (pv 0)) pa_nil))))) (pss_one ps_never) pss_nil)), ?_⟩
    refine ⟨_, rfl, _, rfl, p, dx, _, rfl, h1, wf_no (by decide +kernel), p, m, rfl, W, fun k H2 s2 nk ek => ?_⟩
    refine ⟨z, k, _, rfl, ek, _, rfl, ?_⟩
    rw [decide_eq_true hz]
    exact iteF (q H2 s2)
/-! ### __len__ -/
def sp_len (K : PySem.W.Frag) : Sp := fun vs H Q _ => ∃ (p : Addr) (m : Md), vs = [.ref p] ∧ WebAt (CW K) H p m ∧ ∀ H', Same H H' → Q (.int (m.pts.length : Nat)) H'
theorem met_Web_UlenU (T : Tp K mg) : Met P w K mg base 4 (CW K) "__len__" (sp_len K) := by
  obtain ⟨fd, F⟩ := f_Web_UlenU T
  refine met_of F (cl_Web T) (me_Web_UlenU T) (b_Web_UlenU F) sc_Web_UlenU (fun vs H Q E h => ?_) (fun cdv A outer s H vs Q E hr h => ?_)
  · obtain ⟨p, m, rfl, _⟩ := h
    rfl
  · obtain ⟨p, m, rfl, W, q⟩ := h
    obtain ⟨dx, a, b, c, ws, bs, h1, _⟩ := W.ex
    refine ⟨_, (pss_one (ps_ret (pe_callB call_len_seq (by rfl) (z_len T) bb_len (pa_cons (C8.pe_mt0 (met_Web_points T) hr (by decide) (pv 0)) pa_nil)))), ?_⟩
    refine ⟨_, rfl, p, dx, _, rfl, h1, wf_no (by decide +kernel), p, m, rfl, W, fun k H2 s2 nk ek => ⟨k, _, rfl, .inl (.inl (.inl ek)), ?_⟩⟩
    rw [List.length_map]
    exact q H2 s2
theorem pts_len {C : Addr} {H : Hp} {p : Addr} {m : Md} (W : WebAt C H p m) : m.pts.length ≤ 15 := by
  have h := W.len
  unfold Md.pts
  rw [List.length_cons, List.length_append, List.length_map]
  omega
/-! ### __repr__ -/
def num (i : Int) : Str := (toString i : String)
theorem num_len : ∀ n : Fin 1001, (num ((n : Nat) : Int)).length ≤ 4 := by decide +kernel
theorem num_le {i : Int} (h0 : 0 ≤ i) (h1 : i ≤ 1000) : (num i).length ≤ 4 := by
  have h := num_len ⟨i.toNat, by omega⟩
  rw [show (((⟨i.toNat, by omega⟩ : Fin 1001) : Nat) : Int) = i from Int.toNat_of_nonneg h0] at h
  exact h
theorem num_log {i : Int} (h0 : 0 ≤ i) (h1 : i ≤ 1000) : i.natAbs.log2 < 1920 := by
  have h : i.natAbs < 2 ^ 1920 := Nat.lt_of_lt_of_le (show i.natAbs < 1024 by omega) (by decide +kernel)
  by_cases hz : i.natAbs = 0
  · rw [hz]
    decide
  · exact (Nat.log2_lt hz).mpr h
def webText (m : Md) : Str := ((((((Str.empty ++ ("Web(" : Str)) ++ num (m.pts.length : Nat)) ++ (" points, " : Str)) ++ num (m.bd.length : Nat)) ++ (" ties, by " : Str)) ++ num m.last) ++ (")" : Str)
theorem short {z : Str} {n : Nat} (h : z.length ≤ n) (hn : n ≤ 1000) : z.length ≤ sizeLine := Nat.le_of_lt (small1000 (Nat.le_trans h hn))
theorem app_le {a b : Str} {m n : Nat} (ha : a.length ≤ m) (hb : b.length ≤ n) : (a ++ b).length ≤ m + n := by
  rw [Str.length_append]
  omega
def sp_repr (K : PySem.W.Frag) : Sp := fun vs H Q _ => ∃ (p : Addr) (m : Md), vs = [.ref p] ∧ WebAt (CW K) H p m ∧ ∀ H', Same H H' → Q (.str (webText m)) H'
theorem met_Web_UreprU (T : Tp K mg) : Met P w K mg base 6 (CW K) "__repr__" (sp_repr K) := by
  obtain ⟨fd, F⟩ := f_Web_UreprU T
  refine met_of F (cl_Web T) (me_Web_UreprU T) (b_Web_UreprU F) sc_Web_UreprU (fun vs H Q E h => ?_) (fun cdv A outer s H vs Q E hr h => ?_)
  · obtain ⟨p, m, rfl, _⟩ := h
    rfl
  · obtain ⟨p, m, rfl, W, q⟩ := h
    obtain ⟨dx, a, b, c, ws, bs, h1, _⟩ := W.ex
    have hp := pts_len W
    have hl := W.len
    have hla := W.last
    refine ⟨_, (pss_one (ps_ret (pe_joined (.cons pe_str (.cons (pe_fmt (pe_callB (call_lenO (met_Web_UlenU T) hr (by decide)) (by rfl) (z_len T) bb_len (pa_cons (pv 0) pa_nil))) (.cons pe_str (.cons (pe_fmt (pe_callB call_len_seq (by rfl) (z_len T) bb_len (pa_cons (pe_fld (pv 0) rfl) pa_nil))) (.cons pe_str (.cons (pe_fmt (pe_fld (pv 0) rfl)) (.cons pe_str .nil)))))))))), ?_⟩
    have l0 : (Str.empty ++ ("Web(" : Str)).length ≤ 4 := by decide +kernel
    have l1 := app_le l0 (num_le (i := (m.pts.length : Nat)) (by omega) (by omega))
    have l2 := app_le l1 (show (" points, " : Str).length ≤ 9 by decide +kernel)
    have l3 := app_le l2 (num_le (i := (m.bd.length : Nat)) (by omega) (by omega))
    have l4 := app_le l3 (show (" ties, by " : Str).length ≤ 10 by decide +kernel)
    have l5 := app_le l4 (num_le (i := m.last) (by omega) (by omega))
    have l6 := app_le l5 (show (")" : Str).length ≤ 1 by decide +kernel)
    refine ⟨("Web(" : Str), rfl, short l0 (by decide), _, rfl, p, dx, _, rfl, h1, p, m, rfl, W, fun H2 s2 => ⟨_, rfl, by omega, by omega, .inr ⟨_, rfl, num_log (by omega) (by omega), _, rfl, short l1 (by decide), ?_⟩⟩⟩
    have W2 := W.same s2
    obtain ⟨dx2, a2, b2, c2, ws2, bs2, g1, g2, g3, g4, g5, g6⟩ := W2.ex
    have hb2 : bs2.length = m.bd.length := by rw [g6.len, List.length_map]
    refine ⟨_, rfl, short l2 (by decide), _, rfl, p, CW K, dx2, _, _, rfl, g1, cl_Web T, na_tie_rows T, wf_t, c2, _, rfl, .inr (.inl (.inl g5)), .inr ⟨_, rfl, num_log (by omega) (by omega), _, rfl, ?_, ?_⟩⟩
    · rw [hb2]
      exact short l3 (by decide)
    · rw [hb2]
      refine ⟨_, rfl, short l4 (by decide), _, rfl, p, CW K, dx2, _, _, rfl, g1, cl_Web T, na_by T, wf_by, .inr ⟨_, rfl, num_log (by omega) (by omega), _, rfl, short l5 (by decide), _, rfl, short l6 (by decide), ?_⟩⟩
      exact q H2 s2
end
end Tw

set_option maxHeartbeats 4000000
namespace Tw
open PySem PySem.Spec PyProof.Rows L2
theorem wh_int {lo hi : Int} {v : V} (h : whB lo hi v = true) : ∃ i : Int, v = .int i ∧ lo ≤ i ∧ i ≤ hi := by
  cases v with
  | int j =>
    have hj := of_decide_eq_true (show decide (lo ≤ j ∧ j ≤ hi) = true from h)
    exact ⟨j, rfl, hj.1, hj.2⟩
  | non => cases h
  | bl b => cases h
  | str z => cases h
  | byt b => cases h
  | flt b => cases h
  | ref b => cases h
  | ty b => cases h
/-- the two lengths are good -/
def lenB (a b : V) : Bool := whB 1 1000 a && match a with
  | .int i => whB i 1000 b
  | _ => false
def lateB (h : V) : Bool := decide (h = .non) || whB 0 1000 h
theorem len_ok {a b : V} (h : lenB a b = true) : ∃ i j : Int, a = .int i ∧ b = .int j ∧ 1 ≤ i ∧ i ≤ j ∧ j ≤ 1000 := by
  obtain ⟨h1, h2⟩ := Bool.and_eq_true_iff.mp h
  obtain ⟨i, rfl, i1, _⟩ := wh_int h1
  obtain ⟨j, rfl, j1, j2⟩ := wh_int (show whB i 1000 b = true from h2)
  exact ⟨i, j, rfl, rfl, i1, j1, j2⟩
theorem late_ok {h : V} (e : lateB h = true) : ∃ o : Option Int, h = oV o ∧ ∀ i, o = some i → 0 ≤ i ∧ i ≤ 1000 := by
  by_cases hn : h = .non
  · exact ⟨none, hn, fun i z => by cases z⟩
  · unfold lateB at e
    rw [decide_eq_false hn, Bool.false_or] at e
    obtain ⟨i, rfl, h1, h2⟩ := wh_int e
    exact ⟨some i, rfl, fun j z => by cases z; exact ⟨h1, h2⟩⟩
section
variable {P : Program} {w : World} {K : PySem.W.Frag} {mg : Str → Option Value} {base : Heap}
/-! ### are_lengths, is_lateness -/
def sp_are_lengths : Sp := fun vs H Q _ => ∃ a b : V, vs = [a, b] ∧ (plK a).isSome = true ∧ (plK b).isSome = true ∧ Q (.bl (lenB a b)) H
theorem cal_are_lengths (T : Tp K mg) : Cal P w K mg base 3 "are_lengths" sp_are_lengths := by
  obtain ⟨fd, F⟩ := f_are_lengths T
  refine cal_of F (g_are_lengths T) (b_are_lengths F) sc_are_lengths (fun vs H Q E h => ?_) (fun cdv A outer s H vs Q E hr h => ?_)
  · obtain ⟨a, b, rfl, _⟩ := h
    rfl
  · obtain ⟨a, b, rfl, pa, pb, q⟩ := h
    refine ⟨_, (pss_one (ps_ret (pe_and (C8.pe_c (cal_iswh T) hr (by decide) rfl (pa_cons (pv 0) (pa_cons pe_int (pa_cons (C8.pe_gc (by rfl) (c_MOST_LENGTH T)) pa_nil)))) (pe_one (C8.pe_c (cal_iswh T) hr (by decide) rfl (pa_cons (pv 1) (pa_cons (pv 0) (pa_cons (C8.pe_gc (by rfl) (c_MOST_LENGTH T)) pa_nil)))))))), ?_⟩
    refine ⟨_, rfl, a, 1, 1000, rfl, pa, _, rfl, ?_⟩
    cases ha : whB 1 1000 a with
    | false =>
      refine iteF ?_
      have e : lenB a b = false := by
        unfold lenB
        rw [ha, Bool.false_and]
      rw [e] at q
      exact q
    | true =>
      obtain ⟨i, rfl, i1, i2⟩ := wh_int ha
      refine iteT ⟨_, rfl, _, rfl, b, i, 1000, rfl, pb, ?_⟩
      have e : lenB (.int i) b = whB i 1000 b := by
        show (whB 1 1000 (.int i) && whB i 1000 b) = _
        rw [ha, Bool.true_and]
      rw [e] at q
      exact q
def sp_is_lateness : Sp := fun vs H Q _ => ∃ h : V, vs = [h] ∧ (plK h).isSome = true ∧ Q (.bl (lateB h)) H
theorem cal_is_lateness (T : Tp K mg) : Cal P w K mg base 3 "is_lateness" sp_is_lateness := by
  obtain ⟨fd, F⟩ := f_is_lateness T
  refine cal_of F (g_is_lateness T) (b_is_lateness F) sc_is_lateness (fun vs H Q E h => ?_) (fun cdv A outer s H vs Q E hr h => ?_)
  · obtain ⟨h, rfl, _⟩ := h
    rfl
  · obtain ⟨h, rfl, ph, q⟩ := h
    refine ⟨_, (pss_one (ps_ret (pe_or (pe_cmpR op_isN (pv 0) pe_non (nomark _)) (pe_one (C8.pe_c (cal_iswh T) hr (by decide) rfl (pa_cons (pv 0) (pa_cons pe_int (pa_cons (C8.pe_gc (by rfl) (c_MOST_LATE T)) pa_nil)))))))), ?_⟩
    refine ⟨_, rfl, rfl, _, rfl, ?_⟩
    unfold lateB at q
    by_cases hn : h = .non
    · rw [decide_eq_true hn] at q ⊢
      exact iteT q
    · rw [decide_eq_false hn, Bool.false_or] at q
      rw [decide_eq_false hn]
      exact iteF ⟨_, rfl, h, 0, 1000, rfl, ph, q⟩
end
section
variable {P : Program} {w : World} {K : PySem.W.Frag} {mg : Str → Option Value} {base : Heap}
/-! ### with_moment -/
def Md.addM (m : Md) (z : Str) : Md := { m with own := m.own ++ [z] }
def Md.addS (m : Md) (x : Wd) : Md := { m with wd := m.wd ++ [x] }
def Md.addT (m : Md) (x : Bd) : Md := { m with bd := m.bd ++ [x] }
def sp_with_moment (K : PySem.W.Frag) : Sp := fun vs H Q _ => ∃ (p : Addr) (m : Md) (z : Str), vs = [.ref p, .str z] ∧ WebAt (CW K) H p m ∧ Nm z ∧ ¬ z ∈ m.pts ∧ m.own.length < 10 ∧ ∀ (q : Addr) (H' : Hp), Same H H' → H q = none → WebAt (CW K) H' q (m.addM z) → Q (.ref q) H'
theorem met_Web_with_moment (T : Tp K mg) : Met P w K mg base 6 (CW K) "with_moment" (sp_with_moment K) := by
  obtain ⟨fd, F⟩ := f_Web_with_moment T
  refine met_of F (cl_Web T) (me_Web_with_moment T) (b_Web_with_moment F) sc_Web_with_moment (fun vs H Q E h => ?_) (fun cdv A outer s H vs Q E hr h => ?_)
  · obtain ⟨p, m, z, rfl, _⟩ := h
    rfl
  · obtain ⟨p, m, z, rfl, W, hn, hz, hl, q⟩ := h
    refine ⟨_, (pss_cons (ps_expr (C8.pe_c (cal_need_free_name T) hr (by decide) rfl (pa_cons (pv 0) (pa_cons (pv 1) pa_nil))))
      (pss_cons (ps_if (pt_cmpR op_ge (pe_callB call_len_seq (by rfl) (z_len T) bb_len (pa_cons (pe_fld (pv 0) rfl) pa_nil)) (C8.pe_gc (by rfl) (c_MOST_MOMENTS T)) (nomark _)) (pss_one ps_never) pss_nil)
      (pss_one (ps_ret (C8.pe_c (cal_woven T) hr (by decide) rfl (pa_cons (pe_fld (pv 0) rfl) (pa_cons (pe_tup (StX.pa_star (pe_fld (pv 0) rfl) (pa_cons (pv 1) pa_nil))) (pa_cons (pe_fld (pv 0) rfl) (pa_cons (pe_fld (pv 0) rfl) pa_nil))))))))), ?_⟩
    refine ⟨_, rfl, _, rfl, p, m, z, rfl, W, hn, hz, fun H1 s1 => ?_⟩
    have W1 := W.same s1
    obtain ⟨dx, a, b, c, ws, bs, h1, h2, h3, h4, h5, h6⟩ := W1.ex
    have hlen := W.len
    refine ⟨_, rfl, p, CW K, dx, _, _, rfl, h1, cl_Web T, na_moment_rows T, wf_m, a, _, rfl, .inr (.inl (.inl h2)), _, _, rfl, rfl, _, rfl, ?_⟩
    rw [decide_eq_false (by rw [List.length_map]; omega)]
    refine iteF ?_
    refine ⟨_, rfl, p, CW K, dx, _, _, rfl, h1, cl_Web T, na_by T, wf_by, _, rfl, p, CW K, dx, _, _, rfl, h1, cl_Web T, na_moment_rows T, wf_m, a, _, rfl, .inl (.inl (.inl h2)), _, rfl, ?_, fun t nt => ?_⟩
    · rw [List.length_append, List.length_map]
      exact Nat.le_of_lt (small1000 (by show _ + 1 ≤ 1000; omega))
    · have s2 := same_upd (o := .tup (m.own.map V.str ++ [.str z])) nt
      refine ⟨_, rfl, p, CW K, dx, _, _, rfl, s2 _ _ h1, cl_Web T, na_span_rows T, wf_s, _, rfl, p, CW K, dx, _, _, rfl, s2 _ _ h1, cl_Web T, na_tie_rows T, wf_t, ?_⟩
      refine ⟨m.addM z, t, b, c, ws, bs, rfl, ?_, s2 _ _ h3, h4.keep (Kt.of s2), s2 _ _ h5, h6.keep (Kt.of s2), ⟨?_, hlen.2.1, hlen.2.2⟩, W.last, fun x H2 s3 nx W3 => q x H2 ((s1.trans s2).trans s3) ((s1.trans s2).free nx) W3⟩
      · rw [upd_same]
        show _ = some (HO.tup ((m.own ++ [z]).map V.str))
        rw [List.map_append]
        rfl
      · show (m.own ++ [z]).length ≤ 10
        rw [List.length_append]
        show _ + 1 ≤ 10
        omega
/-! ### with_span -/
structure SpOk (m : Md) (x : Wd) : Prop where
  nm : Nm x.en
  fresh : ¬ x.en ∈ m.pts
  bg : x.bg = "start" ∨ x.bg ∈ m.own
  lo : 1 ≤ x.lo
  hi : x.lo ≤ x.hi
  top : x.hi ≤ 1000
  la : ∀ i, x.la = some i → 0 ≤ i ∧ i ≤ 1000
  few : m.wd.length < 4
def sp_with_span (K : PySem.W.Frag) : Sp := fun vs H Q _ => ∃ (p : Addr) (m : Md) (x : Wd), vs = [.ref p, .str x.en, .str x.bg, .int x.lo, .int x.hi, oV x.la] ∧ WebAt (CW K) H p m ∧ SpOk m x ∧ ∀ (q : Addr) (H' : Hp), Same H H' → H q = none → WebAt (CW K) H' q (m.addS x) → Q (.ref q) H'
theorem met_Web_with_span (T : Tp K mg) : MetN P w K mg base 6 (CW K) "with_span" (sp_with_span K) 5 ["late"] := by
  obtain ⟨fd, F⟩ := f_Web_with_span T
  refine ⟨_, fd, ["self", "end", "begin", "low", "high", "late"], _, cl_Web T, me_Web_with_span T, fnok_of (k := 5) F sc_Web_with_span (fun vs H Q E h => ?_) (fun cdv A outer s H vs Q E hr h => ?_), kbn_of F fun kV doc pm an cdv ct us ws h1 h2 => match us, ws, h1, h2 with
    | [_, _, _, _, _], [_], _, _ => rfl⟩
  · obtain ⟨p, m, x, rfl, _⟩ := h
    rfl
  · obtain ⟨p, m, x, rfl, W, S, q⟩ := h
    refine ⟨_, (pss_cons (ps_expr (C8.pe_c (cal_need_free_name T) hr (by decide) rfl (pa_cons (pv 0) (pa_cons (pv 1) pa_nil))))
      (pss_cons (ps_if (pt_not (pt_val (C8.pe_c (cal_is_begin T) hr (by decide) rfl (pa_cons (pv 0) (pa_cons (pv 2) pa_nil))))) (pss_one ps_never) pss_nil)
      (pss_cons (ps_if (pt_not (pt_val (C8.pe_c (cal_are_lengths T) hr (by decide) rfl (pa_cons (pv 3) (pa_cons (pv 4) pa_nil))))) (pss_one ps_never) pss_nil)
      (pss_cons (ps_if (pt_not (pt_val (C8.pe_c (cal_is_lateness T) hr (by decide) rfl (pa_cons (pv 5) pa_nil)))) (pss_one ps_never) pss_nil)
      (pss_cons (ps_if (pt_cmpR op_ge (pe_callB call_len_seq (by rfl) (z_len T) bb_len (pa_cons (pe_fld (pv 0) rfl) pa_nil)) (C8.pe_gc (by rfl) (c_MOST_SPANS T)) (nomark _)) (pss_one ps_never) pss_nil)
      (pss_cons (ps_set (i := 6) sc_Web_with_span.nd rfl (.inl rfl) (pe_tup (pa_cons (pv 1) (pa_cons (pv 2) (pa_cons (pv 3) (pa_cons (pv 4) (pa_cons (pv 5) pa_nil)))))))
      (pss_one (ps_ret (C8.pe_c (cal_woven T) hr (by decide) rfl (pa_cons (pe_fld (pv 0) rfl) (pa_cons (pe_fld (pv 0) rfl) (pa_cons (pe_tup (StX.pa_star (pe_fld (pv 0) rfl) (pa_cons (pv 6) pa_nil))) (pa_cons (pe_fld (pv 0) rfl) pa_nil))))))))))))), ?_⟩
    have hlen := W.len
    have few := S.few
    refine ⟨_, rfl, _, rfl, p, m, x.en, rfl, W, S.nm, S.fresh, fun H1 s1 => ?_⟩
    refine ⟨_, rfl, _, rfl, p, m, x.bg, rfl, W.same s1, S.bg, fun H2 s2 => ⟨_, rfl, iteF ?_⟩⟩
    have W2 := (W.same s1).same s2
    refine ⟨_, rfl, _, rfl, .int x.lo, .int x.hi, rfl, rfl, rfl, _, rfl, ?_⟩
    have eL : lenB (.int x.lo) (.int x.hi) = true := by
      show (decide (1 ≤ x.lo ∧ x.lo ≤ 1000) && decide (x.lo ≤ x.hi ∧ x.hi ≤ 1000)) = true
      rw [decide_eq_true ⟨S.lo, Int.le_trans S.hi S.top⟩, decide_eq_true ⟨S.hi, S.top⟩]
      rfl
    have eH : (plK (oV x.la)).isSome = true ∧ lateB (oV x.la) = true := by
      cases e : x.la with
      | none => exact ⟨rfl, rfl⟩
      | some i =>
        refine ⟨rfl, ?_⟩
        show (decide (V.int i = V.non) || decide (0 ≤ i ∧ i ≤ 1000)) = true
        rw [decide_eq_true (S.la i e), Bool.or_true]
    rw [eL]
    refine iteF ⟨_, rfl, oV x.la, rfl, eH.1, _, rfl, ?_⟩
    rw [eH.2]
    refine iteF ?_
    obtain ⟨dx, a, b, c, ws, bs, h1, h2, h3, h4, h5, h6⟩ := W2.ex
    have hw : ws.length = m.wd.length := by rw [h4.len, List.length_map]
    refine ⟨_, rfl, p, CW K, dx, _, _, rfl, h1, cl_Web T, na_span_rows T, wf_s, b, _, rfl, .inr (.inl (.inl h3)), _, _, rfl, rfl, _, rfl, ?_⟩
    rw [decide_eq_false (by rw [hw]; omega)]
    refine iteF ?_
    refine ⟨_, rfl, _, rfl, _, rfl, _, rfl, _, rfl, (by show 5 ≤ sizeLine; decide), fun t nt => ?_⟩
    have s3 := same_upd (o := .tup x.row) nt
    refine ⟨_, rfl, p, CW K, dx, _, _, rfl, s3 _ _ h1, cl_Web T, na_by T, wf_by, _, rfl, p, CW K, dx, _, _, rfl, s3 _ _ h1, cl_Web T, na_moment_rows T, wf_m, _, rfl, p, CW K, dx, _, _, rfl, s3 _ _ h1, cl_Web T, na_span_rows T, wf_s, b, _, rfl, .inl (.inl (.inl (s3 _ _ h3))), .ref t, rfl, ?_, fun u nu => ?_⟩
    · rw [List.length_append]
      exact Nat.le_of_lt (small1000 (by show _ + 1 ≤ 1000; omega))
    · have s4 := same_upd (o := .tup (ws ++ [.ref t])) nu
      have s5 := s3.trans s4
      refine ⟨_, rfl, p, CW K, dx, _, _, rfl, s5 _ _ h1, cl_Web T, na_tie_rows T, wf_t, ?_⟩
      have rw' : Rows (upd (upd H2 t (.tup x.row)) u (.tup (ws ++ [.ref t]))) (ws ++ [.ref t]) ((m.addS x).wd.map Wd.row) := by
        show Rows _ _ ((m.wd ++ [x]).map Wd.row)
        rw [List.map_append]
        exact (h4.keep (Kt.of s5)).snoc (s4 _ _ upd_same)
      refine ⟨m.addS x, a, u, c, ws ++ [V.ref t], bs, rfl, s5 _ _ h2, upd_same, rw', s5 _ _ h5, h6.keep (Kt.of s5), ⟨hlen.1, ?_, hlen.2.2⟩, W.last, fun y H5 s6 ny W5 => q y H5 (((s1.trans s2).trans s5).trans s6) (((s1.trans s2).trans s5).free ny) W5⟩
      show (m.wd ++ [x]).length ≤ 4
      rw [List.length_append]
      show _ + 1 ≤ 4
      omega
/-! ### with_tie -/
structure TiOk (m : Md) (x : Bd) : Prop where
  one : x.one ∈ m.pts
  oth : x.oth ∈ m.pts
  ne : ¬ x.one = x.oth
  b : BOk x.bot x.top
  few : m.bd.length < 40
def sp_with_tie (K : PySem.W.Frag) : Sp := fun vs H Q _ => ∃ (p : Addr) (m : Md) (x : Bd), vs = [.ref p, .str x.one, .str x.oth, oV x.bot, oV x.top] ∧ WebAt (CW K) H p m ∧ TiOk m x ∧ ∀ (q : Addr) (H' : Hp), Same H H' → H q = none → WebAt (CW K) H' q (m.addT x) → Q (.ref q) H'
theorem met_Web_with_tie (T : Tp K mg) : MetN P w K mg base 6 (CW K) "with_tie" (sp_with_tie K) 3 ["least", "most"] := by
  obtain ⟨fd, F⟩ := f_Web_with_tie T
  refine ⟨_, fd, ["self", "one", "other", "least", "most"], _, cl_Web T, me_Web_with_tie T, fnok_of (k := 5) F sc_Web_with_tie (fun vs H Q E h => ?_) (fun cdv A outer s H vs Q E hr h => ?_), kbn_of F fun kV doc pm an cdv ct us ws h1 h2 => match us, ws, h1, h2 with
    | [_, _, _], [_, _], _, _ => rfl⟩
  · obtain ⟨p, m, x, rfl, _⟩ := h
    rfl
  · obtain ⟨p, m, x, rfl, W, S, q⟩ := h
    refine ⟨_, (pss_cons (ps_expr (C8.pe_c (cal_need_point T) hr (by decide) rfl (pa_cons (pv 0) (pa_cons (pv 1) pa_nil))))
      (pss_cons (ps_expr (C8.pe_c (cal_need_point T) hr (by decide) rfl (pa_cons (pv 0) (pa_cons (pv 2) pa_nil))))
      (pss_cons (ps_if (PW.pt (pw_or (pt_cmpR op_eq (pv 1) (pv 2) (nomark _)) (pw_or1 (pt_not (pt_val (C8.pe_c (cal_are_bounds T) hr (by decide) rfl (pa_cons (pv 3) (pa_cons (pv 4) pa_nil)))))))) (pss_one ps_never) pss_nil)
      (pss_cons (ps_if (pt_cmpR op_ge (pe_callB call_len_seq (by rfl) (z_len T) bb_len (pa_cons (pe_fld (pv 0) rfl) pa_nil)) (C8.pe_gc (by rfl) (c_MOST_TIES T)) (nomark _)) (pss_one ps_never) pss_nil)
      (pss_cons (ps_set (i := 5) sc_Web_with_tie.nd rfl (.inl rfl) (pe_tup (pa_cons (pv 1) (pa_cons (pv 2) (pa_cons (pv 3) (pa_cons (pv 4) pa_nil))))))
      (pss_one (ps_ret (C8.pe_c (cal_woven T) hr (by decide) rfl (pa_cons (pe_fld (pv 0) rfl) (pa_cons (pe_fld (pv 0) rfl) (pa_cons (pe_fld (pv 0) rfl) (pa_cons (pe_tup (StX.pa_star (pe_fld (pv 0) rfl) (pa_cons (pv 5) pa_nil))) pa_nil)))))))))))), ?_⟩
    have hlen := W.len
    have few := S.few
    refine ⟨_, rfl, _, rfl, p, m, x.one, rfl, W, S.one, fun H1 s1 => ?_⟩
    refine ⟨_, rfl, _, rfl, p, m, x.oth, rfl, W.same s1, S.oth, fun H2 s2 => ?_⟩
    have W2 := (W.same s1).same s2
    refine ⟨_, rfl, _, rfl, rfl, _, rfl, ?_⟩
    rw [decide_eq_false (show ¬ V.str x.one = V.str x.oth from fun e => S.ne (V.str.inj e))]
    refine iteF ⟨_, rfl, _, rfl, x.bot, x.top, rfl, S.b, fun H3 s3 => ⟨_, rfl, iteF ?_⟩⟩
    have W3 := W2.same s3
    obtain ⟨dx, a, b, c, ws, bs, h1, h2, h3, h4, h5, h6⟩ := W3.ex
    have hb : bs.length = m.bd.length := by rw [h6.len, List.length_map]
    refine ⟨_, rfl, p, CW K, dx, _, _, rfl, h1, cl_Web T, na_tie_rows T, wf_t, c, _, rfl, .inr (.inl (.inl h5)), _, _, rfl, rfl, _, rfl, ?_⟩
    rw [decide_eq_false (by rw [hb]; omega)]
    refine iteF ?_
    refine ⟨_, rfl, _, rfl, _, rfl, _, rfl, (by show 4 ≤ sizeLine; decide), fun t nt => ?_⟩
    have s4 := same_upd (o := .tup x.row) nt
    refine ⟨_, rfl, p, CW K, dx, _, _, rfl, s4 _ _ h1, cl_Web T, na_by T, wf_by, _, rfl, p, CW K, dx, _, _, rfl, s4 _ _ h1, cl_Web T, na_moment_rows T, wf_m, _, rfl, p, CW K, dx, _, _, rfl, s4 _ _ h1, cl_Web T, na_span_rows T, wf_s, _, rfl, p, CW K, dx, _, _, rfl, s4 _ _ h1, cl_Web T, na_tie_rows T, wf_t, c, _, rfl, .inl (.inl (.inl (s4 _ _ h5))), .ref t, rfl, ?_, fun u nu => ?_⟩
    · rw [List.length_append]
      exact Nat.le_of_lt (small1000 (by show _ + 1 ≤ 1000; omega))
    · have s5 := same_upd (o := .tup (bs ++ [.ref t])) nu
      have s6 := s4.trans s5
      have rb' : Rows (upd (upd H3 t (.tup x.row)) u (.tup (bs ++ [.ref t]))) (bs ++ [.ref t]) ((m.addT x).bd.map Bd.row) := by
        show Rows _ _ ((m.bd ++ [x]).map Bd.row)
        rw [List.map_append]
        exact (h6.keep (Kt.of s6)).snoc (s5 _ _ upd_same)
      have sa := ((s1.trans s2).trans s3).trans s6
      refine ⟨m.addT x, a, b, u, ws, bs ++ [V.ref t], rfl, s6 _ _ h2, s6 _ _ h3, h4.keep (Kt.of s6), upd_same, rb', ⟨hlen.1, hlen.2.1, ?_⟩, W.last, fun y H5 s7 ny W5 => q y H5 (sa.trans s7) (sa.free ny) W5⟩
      show (m.bd ++ [x]).length ≤ 40
      rw [List.length_append]
      show _ + 1 ≤ 40
      omega
end
end Tw

set_option maxHeartbeats 4000000
namespace Tw
open PySem PySem.Spec PyProof.Rows L2
section
variable {P : Program} {w : World} {K : PySem.W.Frag} {mg : Str → Option Value} {base : Heap}
theorem fn_TideError (T : Tp K mg) {fd : FuncData} (F : FunD K "__init__" "TideError.__init__" (defArgs s_TideError_UinitU) (defBody s_TideError_UinitU) (defScope s_TideError_UinitU) [V.str "TideError", V.str "refused"] [] (He.ma K (He.ga K "TideError") "__init__") fd) : FnOk P w K mg base CX0 2 (He.ma K (He.ga K "TideError") "__init__") fd ["self", "word", "why"] (sp_miss bVE K) := by
  refine fnok_of F sc_TideError_UinitU (fun vs H Q E h => ?_) (fun cdv A outer s H vs Q E hr h => ?_)
  · obtain ⟨a, C, u, y, rfl, _⟩ := h
    rfl
  · obtain ⟨a, C, u, y, rfl, O, nw, ha, lu, ly, q⟩ := h
    refine ⟨_, (pss_cons (ps_expr (pe_binit bVE_ok bb_ValueError rfl (z_ValueError T) (vi_ValueError T) rfl (pa_cons (pv 0) (pa_cons (pe_joined (.cons (pe_fmt (pv 1)) (.cons pe_str (.cons (pe_fmt (pv 2)) .nil)))) pa_nil))))
      (pss_one (ps_ox (b := bVE) (pv 0) (pv 1)))), ?_⟩
    have l1 : (Str.empty ++ u).length ≤ 0 + 100 := app_le (show Str.empty.length ≤ 0 by decide) lu
    have l2 := app_le l1 (show (": " : Str).length ≤ 2 by decide +kernel)
    have l3 := app_le l2 ly
    refine ⟨_, rfl, _, rfl, .inl ⟨u, rfl, short (show u.length ≤ 100 from lu) (by decide), u, rfl, short l1 (by decide), _, rfl, short l2 (by decide), _, rfl, .inl ⟨y, rfl, short (show y.length ≤ 100 from ly) (by decide), y, rfl, short l3 (by decide), ?_⟩⟩⟩
    refine ⟨a, C, _, rfl, by show 1 ≤ 1000; decide, O, ha, ?_⟩
    exact ⟨_, rfl, _, rfl, a, C, rfl, O, nw, .inl ⟨ha, q⟩⟩
theorem b_TideError {fd : FuncData} (F : FunD K "__init__" "TideError.__init__" (defArgs s_TideError_UinitU) (defBody s_TideError_UinitU) (defScope s_TideError_UinitU) [V.str "TideError", V.str "refused"] [] (He.ma K (He.ga K "TideError") "__init__") fd) : Binds K fd ["self", "word", "why"] [] := by
  obtain ⟨ds, hv, hb⟩ := F.binds1 (ps := ["self", "word", "why"]) 3 2 (by simp) rfl fun T kV doc pm an cdv ct us its h1 h2 => match us, its, h1, h2 with
    | [_, _, _], [_, _], _, _ => ⟨_, rfl, rfl⟩
  have hv : Vals [] ds := hv
  cases hv
  exact hb
theorem fn_Missing (T : Tp K mg) {fd : FuncData} (F : FunD K "__init__" "Missing.__init__" (defArgs s_Missing_UinitU) (defBody s_Missing_UinitU) (defScope s_Missing_UinitU) [V.str "Missing", V.str "refused"] [] (He.ma K (He.ga K "Missing") "__init__") fd) : FnOk P w K mg base CX0 2 (He.ma K (He.ga K "Missing") "__init__") fd ["self", "word", "why"] (sp_miss bLE K) := by
  refine fnok_of F sc_Missing_UinitU (fun vs H Q E h => ?_) (fun cdv A outer s H vs Q E hr h => ?_)
  · obtain ⟨a, C, u, y, rfl, _⟩ := h
    rfl
  · obtain ⟨a, C, u, y, rfl, O, nw, ha, lu, ly, q⟩ := h
    refine ⟨_, (pss_cons (ps_expr (pe_binit bLE_ok bb_LookupError rfl (z_LookupError T) (vi_LookupError T) rfl (pa_cons (pv 0) (pa_cons (pe_joined (.cons (pe_fmt (pv 1)) (.cons pe_str (.cons (pe_fmt (pv 2)) .nil)))) pa_nil))))
      (pss_one (ps_ox (b := bLE) (pv 0) (pv 1)))), ?_⟩
    have l1 : (Str.empty ++ u).length ≤ 0 + 100 := app_le (show Str.empty.length ≤ 0 by decide) lu
    have l2 := app_le l1 (show (": " : Str).length ≤ 2 by decide +kernel)
    have l3 := app_le l2 ly
    refine ⟨_, rfl, _, rfl, .inl ⟨u, rfl, short (show u.length ≤ 100 from lu) (by decide), u, rfl, short l1 (by decide), _, rfl, short l2 (by decide), _, rfl, .inl ⟨y, rfl, short (show y.length ≤ 100 from ly) (by decide), y, rfl, short l3 (by decide), ?_⟩⟩⟩
    refine ⟨a, C, _, rfl, by show 1 ≤ 1000; decide, O, ha, ?_⟩
    exact ⟨_, rfl, _, rfl, a, C, rfl, O, nw, .inl ⟨ha, q⟩⟩
theorem b_Missing {fd : FuncData} (F : FunD K "__init__" "Missing.__init__" (defArgs s_Missing_UinitU) (defBody s_Missing_UinitU) (defScope s_Missing_UinitU) [V.str "Missing", V.str "refused"] [] (He.ma K (He.ga K "Missing") "__init__") fd) : Binds K fd ["self", "word", "why"] [] := by
  obtain ⟨ds, hv, hb⟩ := F.binds1 (ps := ["self", "word", "why"]) 3 2 (by simp) rfl fun T kV doc pm an cdv ct us its h1 h2 => match us, its, h1, h2 with
    | [_, _, _], [_, _], _, _ => ⟨_, rfl, rfl⟩
  have hv : Vals [] ds := hv
  cases hv
  exact hb
theorem mkx_BadBy (T : Tp K mg) : MkB bVE P w K mg base 3 "BadBy" (He.ga K "BadBy") (sp_exc1 K (He.ga K "BadBy") "BadBy" "by") := by
  obtain ⟨fd, F⟩ := f_BadBy_UinitU T
  obtain ⟨fdT, FT⟩ := f_TideError_UinitU T
  have F1 := fn_TideError (P := P) (w := w) (base := base) T FT
  have kp := FT.kp
  have b1 := b_TideError FT
  refine ⟨_, fd, ["self", "by"], oe_BadBy T, in_BadBy T, fnok_of F sc_BadBy_UinitU (fun vs H Q E h => ?_) (fun cdv A outer s H vs Q E hr h => ?_), g_BadBy T, b_BadBy_UinitU F⟩
  · obtain ⟨a, v, rfl, _⟩ := h
    rfl
  · obtain ⟨a, v, rfl, ha, q⟩ := h
    refine ⟨_, (pss_cons (ps_expr (pe_ci (cd_TideError T) rfl (g_TideError T) kp F1 hr (by decide) b1 (pa_cons (pv 0) (pa_cons pe_str (pa_cons pe_str pa_nil)))))
      (pss_one (ps_ox (b := bVE) (pv 0) (pv 1)))), ?_⟩
    refine ⟨_, rfl, a, He.ga K "BadBy", _, _, rfl, oe_BadBy T, nf_BadBy_word T, ha, by decide +kernel, by decide +kernel, fun d nd da => ?_⟩
    refine ⟨_, rfl, _, rfl, a, He.ga K "BadBy", rfl, oe_BadBy T, nf_BadBy_by T, .inr ⟨d, _, upd_same, by rw [upd_ne da]; exact upd_same, by show 1 ≤ 900; decide, ?_⟩⟩
    refine q d _ nd da (fun b h1 h2 => ?_) ?_ upd_same
    · rw [upd_ne h2, upd_ne h1, upd_ne h2]
    · rw [upd_ne (Ne.symm da)]
      exact upd_same
theorem mkx_BadName (T : Tp K mg) : MkB bVE P w K mg base 3 "BadName" (He.ga K "BadName") (sp_exc1 K (He.ga K "BadName") "BadName" "name") := by
  obtain ⟨fd, F⟩ := f_BadName_UinitU T
  obtain ⟨fdT, FT⟩ := f_TideError_UinitU T
  have F1 := fn_TideError (P := P) (w := w) (base := base) T FT
  have kp := FT.kp
  have b1 := b_TideError FT
  refine ⟨_, fd, ["self", "name"], oe_BadName T, in_BadName T, fnok_of F sc_BadName_UinitU (fun vs H Q E h => ?_) (fun cdv A outer s H vs Q E hr h => ?_), g_BadName T, b_BadName_UinitU F⟩
  · obtain ⟨a, v, rfl, _⟩ := h
    rfl
  · obtain ⟨a, v, rfl, ha, q⟩ := h
    refine ⟨_, (pss_cons (ps_expr (pe_ci (cd_TideError T) rfl (g_TideError T) kp F1 hr (by decide) b1 (pa_cons (pv 0) (pa_cons pe_str (pa_cons pe_str pa_nil)))))
      (pss_one (ps_ox (b := bVE) (pv 0) (pv 1)))), ?_⟩
    refine ⟨_, rfl, a, He.ga K "BadName", _, _, rfl, oe_BadName T, nf_BadName_word T, ha, by decide +kernel, by decide +kernel, fun d nd da => ?_⟩
    refine ⟨_, rfl, _, rfl, a, He.ga K "BadName", rfl, oe_BadName T, nf_BadName_name T, .inr ⟨d, _, upd_same, by rw [upd_ne da]; exact upd_same, by show 1 ≤ 900; decide, ?_⟩⟩
    refine q d _ nd da (fun b h1 h2 => ?_) ?_ upd_same
    · rw [upd_ne h2, upd_ne h1, upd_ne h2]
    · rw [upd_ne (Ne.symm da)]
      exact upd_same
theorem mkx_Taken (T : Tp K mg) : MkB bVE P w K mg base 3 "Taken" (He.ga K "Taken") (sp_exc1 K (He.ga K "Taken") "Taken" "name") := by
  obtain ⟨fd, F⟩ := f_Taken_UinitU T
  obtain ⟨fdT, FT⟩ := f_TideError_UinitU T
  have F1 := fn_TideError (P := P) (w := w) (base := base) T FT
  have kp := FT.kp
  have b1 := b_TideError FT
  refine ⟨_, fd, ["self", "name"], oe_Taken T, in_Taken T, fnok_of F sc_Taken_UinitU (fun vs H Q E h => ?_) (fun cdv A outer s H vs Q E hr h => ?_), g_Taken T, b_Taken_UinitU F⟩
  · obtain ⟨a, v, rfl, _⟩ := h
    rfl
  · obtain ⟨a, v, rfl, ha, q⟩ := h
    refine ⟨_, (pss_cons (ps_expr (pe_ci (cd_TideError T) rfl (g_TideError T) kp F1 hr (by decide) b1 (pa_cons (pv 0) (pa_cons pe_str (pa_cons pe_str pa_nil)))))
      (pss_one (ps_ox (b := bVE) (pv 0) (pv 1)))), ?_⟩
    refine ⟨_, rfl, a, He.ga K "Taken", _, _, rfl, oe_Taken T, nf_Taken_word T, ha, by decide +kernel, by decide +kernel, fun d nd da => ?_⟩
    refine ⟨_, rfl, _, rfl, a, He.ga K "Taken", rfl, oe_Taken T, nf_Taken_name T, .inr ⟨d, _, upd_same, by rw [upd_ne da]; exact upd_same, by show 1 ≤ 900; decide, ?_⟩⟩
    refine q d _ nd da (fun b h1 h2 => ?_) ?_ upd_same
    · rw [upd_ne h2, upd_ne h1, upd_ne h2]
    · rw [upd_ne (Ne.symm da)]
      exact upd_same
theorem mkx_Full (T : Tp K mg) : MkB bVE P w K mg base 3 "Full" (He.ga K "Full") (sp_exc1 K (He.ga K "Full") "Full" "most") := by
  obtain ⟨fd, F⟩ := f_Full_UinitU T
  obtain ⟨fdT, FT⟩ := f_TideError_UinitU T
  have F1 := fn_TideError (P := P) (w := w) (base := base) T FT
  have kp := FT.kp
  have b1 := b_TideError FT
  refine ⟨_, fd, ["self", "most"], oe_Full T, in_Full T, fnok_of F sc_Full_UinitU (fun vs H Q E h => ?_) (fun cdv A outer s H vs Q E hr h => ?_), g_Full T, b_Full_UinitU F⟩
  · obtain ⟨a, v, rfl, _⟩ := h
    rfl
  · obtain ⟨a, v, rfl, ha, q⟩ := h
    refine ⟨_, (pss_cons (ps_expr (pe_ci (cd_TideError T) rfl (g_TideError T) kp F1 hr (by decide) b1 (pa_cons (pv 0) (pa_cons pe_str (pa_cons pe_str pa_nil)))))
      (pss_one (ps_ox (b := bVE) (pv 0) (pv 1)))), ?_⟩
    refine ⟨_, rfl, a, He.ga K "Full", _, _, rfl, oe_Full T, nf_Full_word T, ha, by decide +kernel, by decide +kernel, fun d nd da => ?_⟩
    refine ⟨_, rfl, _, rfl, a, He.ga K "Full", rfl, oe_Full T, nf_Full_most T, .inr ⟨d, _, upd_same, by rw [upd_ne da]; exact upd_same, by show 1 ≤ 900; decide, ?_⟩⟩
    refine q d _ nd da (fun b h1 h2 => ?_) ?_ upd_same
    · rw [upd_ne h2, upd_ne h1, upd_ne h2]
    · rw [upd_ne (Ne.symm da)]
      exact upd_same
theorem mkx_BadLength (T : Tp K mg) : MkB bVE P w K mg base 3 "BadLength" (He.ga K "BadLength") (sp_exc2 K (He.ga K "BadLength") "BadLength" "low" "high") := by
  obtain ⟨fd, F⟩ := f_BadLength_UinitU T
  obtain ⟨fdT, FT⟩ := f_TideError_UinitU T
  have F1 := fn_TideError (P := P) (w := w) (base := base) T FT
  have kp := FT.kp
  have b1 := b_TideError FT
  refine ⟨_, fd, ["self", "low", "high"], oe_BadLength T, in_BadLength T, fnok_of F sc_BadLength_UinitU (fun vs H Q E h => ?_) (fun cdv A outer s H vs Q E hr h => ?_), g_BadLength T, b_BadLength_UinitU F⟩
  · obtain ⟨a, v, u, rfl, _⟩ := h
    rfl
  · obtain ⟨a, v, u, rfl, ha, q⟩ := h
    refine ⟨_, (pss_cons (ps_expr (pe_ci (cd_TideError T) rfl (g_TideError T) kp F1 hr (by decide) b1 (pa_cons (pv 0) (pa_cons pe_str (pa_cons pe_str pa_nil)))))
      (pss_cons (ps_ox (b := bVE) (pv 0) (pv 1))
      (pss_one (ps_ox (b := bVE) (pv 0) (pv 2))))), ?_⟩
    refine ⟨_, rfl, a, He.ga K "BadLength", _, _, rfl, oe_BadLength T, nf_BadLength_word T, ha, by decide +kernel, by decide +kernel, fun d nd da => ?_⟩
    refine ⟨_, rfl, _, rfl, a, He.ga K "BadLength", rfl, oe_BadLength T, nf_BadLength_low T, .inr ⟨d, _, upd_same, by rw [upd_ne da]; exact upd_same, by show 1 ≤ 900; decide, ?_⟩⟩
    refine ⟨_, rfl, _, rfl, a, He.ga K "BadLength", rfl, oe_BadLength T, nf_BadLength_high T, .inr ⟨d, _, by rw [upd_ne (Ne.symm da)]; exact upd_same, upd_same, by show 2 ≤ 900; decide, ?_⟩⟩
    refine q d _ nd da (fun b h1 h2 => ?_) ?_ upd_same
    · rw [upd_ne h2, upd_ne h2, upd_ne h1, upd_ne h2]
    · rw [upd_ne (Ne.symm da), upd_ne (Ne.symm da)]
      exact upd_same
theorem mkx_BadLate (T : Tp K mg) : MkB bVE P w K mg base 3 "BadLate" (He.ga K "BadLate") (sp_exc1 K (He.ga K "BadLate") "BadLate" "late") := by
  obtain ⟨fd, F⟩ := f_BadLate_UinitU T
  obtain ⟨fdT, FT⟩ := f_TideError_UinitU T
  have F1 := fn_TideError (P := P) (w := w) (base := base) T FT
  have kp := FT.kp
  have b1 := b_TideError FT
  refine ⟨_, fd, ["self", "late"], oe_BadLate T, in_BadLate T, fnok_of F sc_BadLate_UinitU (fun vs H Q E h => ?_) (fun cdv A outer s H vs Q E hr h => ?_), g_BadLate T, b_BadLate_UinitU F⟩
  · obtain ⟨a, v, rfl, _⟩ := h
    rfl
  · obtain ⟨a, v, rfl, ha, q⟩ := h
    refine ⟨_, (pss_cons (ps_expr (pe_ci (cd_TideError T) rfl (g_TideError T) kp F1 hr (by decide) b1 (pa_cons (pv 0) (pa_cons pe_str (pa_cons pe_str pa_nil)))))
      (pss_one (ps_ox (b := bVE) (pv 0) (pv 1)))), ?_⟩
    refine ⟨_, rfl, a, He.ga K "BadLate", _, _, rfl, oe_BadLate T, nf_BadLate_word T, ha, by decide +kernel, by decide +kernel, fun d nd da => ?_⟩
    refine ⟨_, rfl, _, rfl, a, He.ga K "BadLate", rfl, oe_BadLate T, nf_BadLate_late T, .inr ⟨d, _, upd_same, by rw [upd_ne da]; exact upd_same, by show 1 ≤ 900; decide, ?_⟩⟩
    refine q d _ nd da (fun b h1 h2 => ?_) ?_ upd_same
    · rw [upd_ne h2, upd_ne h1, upd_ne h2]
    · rw [upd_ne (Ne.symm da)]
      exact upd_same
theorem mkx_BadTie (T : Tp K mg) : MkB bVE P w K mg base 3 "BadTie" (He.ga K "BadTie") (sp_exc2 K (He.ga K "BadTie") "BadTie" "least" "most") := by
  obtain ⟨fd, F⟩ := f_BadTie_UinitU T
  obtain ⟨fdT, FT⟩ := f_TideError_UinitU T
  have F1 := fn_TideError (P := P) (w := w) (base := base) T FT
  have kp := FT.kp
  have b1 := b_TideError FT
  refine ⟨_, fd, ["self", "least", "most"], oe_BadTie T, in_BadTie T, fnok_of F sc_BadTie_UinitU (fun vs H Q E h => ?_) (fun cdv A outer s H vs Q E hr h => ?_), g_BadTie T, b_BadTie_UinitU F⟩
  · obtain ⟨a, v, u, rfl, _⟩ := h
    rfl
  · obtain ⟨a, v, u, rfl, ha, q⟩ := h
    refine ⟨_, (pss_cons (ps_expr (pe_ci (cd_TideError T) rfl (g_TideError T) kp F1 hr (by decide) b1 (pa_cons (pv 0) (pa_cons pe_str (pa_cons pe_str pa_nil)))))
      (pss_cons (ps_ox (b := bVE) (pv 0) (pv 1))
      (pss_one (ps_ox (b := bVE) (pv 0) (pv 2))))), ?_⟩
    refine ⟨_, rfl, a, He.ga K "BadTie", _, _, rfl, oe_BadTie T, nf_BadTie_word T, ha, by decide +kernel, by decide +kernel, fun d nd da => ?_⟩
    refine ⟨_, rfl, _, rfl, a, He.ga K "BadTie", rfl, oe_BadTie T, nf_BadTie_least T, .inr ⟨d, _, upd_same, by rw [upd_ne da]; exact upd_same, by show 1 ≤ 900; decide, ?_⟩⟩
    refine ⟨_, rfl, _, rfl, a, He.ga K "BadTie", rfl, oe_BadTie T, nf_BadTie_most T, .inr ⟨d, _, by rw [upd_ne (Ne.symm da)]; exact upd_same, upd_same, by show 2 ≤ 900; decide, ?_⟩⟩
    refine q d _ nd da (fun b h1 h2 => ?_) ?_ upd_same
    · rw [upd_ne h2, upd_ne h2, upd_ne h1, upd_ne h2]
    · rw [upd_ne (Ne.symm da), upd_ne (Ne.symm da)]
      exact upd_same
theorem mkx_Used (T : Tp K mg) : MkB bVE P w K mg base 3 "Used" (He.ga K "Used") (sp_exc1 K (He.ga K "Used") "Used" "name") := by
  obtain ⟨fd, F⟩ := f_Used_UinitU T
  obtain ⟨fdT, FT⟩ := f_TideError_UinitU T
  have F1 := fn_TideError (P := P) (w := w) (base := base) T FT
  have kp := FT.kp
  have b1 := b_TideError FT
  refine ⟨_, fd, ["self", "name"], oe_Used T, in_Used T, fnok_of F sc_Used_UinitU (fun vs H Q E h => ?_) (fun cdv A outer s H vs Q E hr h => ?_), g_Used T, b_Used_UinitU F⟩
  · obtain ⟨a, v, rfl, _⟩ := h
    rfl
  · obtain ⟨a, v, rfl, ha, q⟩ := h
    refine ⟨_, (pss_cons (ps_expr (pe_ci (cd_TideError T) rfl (g_TideError T) kp F1 hr (by decide) b1 (pa_cons (pv 0) (pa_cons pe_str (pa_cons pe_str pa_nil)))))
      (pss_one (ps_ox (b := bVE) (pv 0) (pv 1)))), ?_⟩
    refine ⟨_, rfl, a, He.ga K "Used", _, _, rfl, oe_Used T, nf_Used_word T, ha, by decide +kernel, by decide +kernel, fun d nd da => ?_⟩
    refine ⟨_, rfl, _, rfl, a, He.ga K "Used", rfl, oe_Used T, nf_Used_name T, .inr ⟨d, _, upd_same, by rw [upd_ne da]; exact upd_same, by show 1 ≤ 900; decide, ?_⟩⟩
    refine q d _ nd da (fun b h1 h2 => ?_) ?_ upd_same
    · rw [upd_ne h2, upd_ne h1, upd_ne h2]
    · rw [upd_ne (Ne.symm da)]
      exact upd_same
theorem mkx_BadText (T : Tp K mg) : MkB bVE P w K mg base 3 "BadText" (He.ga K "BadText") (sp_exc1 K (He.ga K "BadText") "BadText" "row") := by
  obtain ⟨fd, F⟩ := f_BadText_UinitU T
  obtain ⟨fdT, FT⟩ := f_TideError_UinitU T
  have F1 := fn_TideError (P := P) (w := w) (base := base) T FT
  have kp := FT.kp
  have b1 := b_TideError FT
  refine ⟨_, fd, ["self", "row"], oe_BadText T, in_BadText T, fnok_of F sc_BadText_UinitU (fun vs H Q E h => ?_) (fun cdv A outer s H vs Q E hr h => ?_), g_BadText T, b_BadText_UinitU F⟩
  · obtain ⟨a, v, rfl, _⟩ := h
    rfl
  · obtain ⟨a, v, rfl, ha, q⟩ := h
    refine ⟨_, (pss_cons (ps_expr (pe_ci (cd_TideError T) rfl (g_TideError T) kp F1 hr (by decide) b1 (pa_cons (pv 0) (pa_cons pe_str (pa_cons pe_str pa_nil)))))
      (pss_one (ps_ox (b := bVE) (pv 0) (pv 1)))), ?_⟩
    refine ⟨_, rfl, a, He.ga K "BadText", _, _, rfl, oe_BadText T, nf_BadText_word T, ha, by decide +kernel, by decide +kernel, fun d nd da => ?_⟩
    refine ⟨_, rfl, _, rfl, a, He.ga K "BadText", rfl, oe_BadText T, nf_BadText_row T, .inr ⟨d, _, upd_same, by rw [upd_ne da]; exact upd_same, by show 1 ≤ 900; decide, ?_⟩⟩
    refine q d _ nd da (fun b h1 h2 => ?_) ?_ upd_same
    · rw [upd_ne h2, upd_ne h1, upd_ne h2]
    · rw [upd_ne (Ne.symm da)]
      exact upd_same
theorem mkx_BadDeed (T : Tp K mg) : MkB bVE P w K mg base 3 "BadDeed" (He.ga K "BadDeed") (sp_exc1 K (He.ga K "BadDeed") "BadDeed" "kind") := by
  obtain ⟨fd, F⟩ := f_BadDeed_UinitU T
  obtain ⟨fdT, FT⟩ := f_TideError_UinitU T
  have F1 := fn_TideError (P := P) (w := w) (base := base) T FT
  have kp := FT.kp
  have b1 := b_TideError FT
  refine ⟨_, fd, ["self", "kind"], oe_BadDeed T, in_BadDeed T, fnok_of F sc_BadDeed_UinitU (fun vs H Q E h => ?_) (fun cdv A outer s H vs Q E hr h => ?_), g_BadDeed T, b_BadDeed_UinitU F⟩
  · obtain ⟨a, v, rfl, _⟩ := h
    rfl
  · obtain ⟨a, v, rfl, ha, q⟩ := h
    refine ⟨_, (pss_cons (ps_expr (pe_ci (cd_TideError T) rfl (g_TideError T) kp F1 hr (by decide) b1 (pa_cons (pv 0) (pa_cons pe_str (pa_cons pe_str pa_nil)))))
      (pss_one (ps_ox (b := bVE) (pv 0) (pv 1)))), ?_⟩
    refine ⟨_, rfl, a, He.ga K "BadDeed", _, _, rfl, oe_BadDeed T, nf_BadDeed_word T, ha, by decide +kernel, by decide +kernel, fun d nd da => ?_⟩
    refine ⟨_, rfl, _, rfl, a, He.ga K "BadDeed", rfl, oe_BadDeed T, nf_BadDeed_kind T, .inr ⟨d, _, upd_same, by rw [upd_ne da]; exact upd_same, by show 1 ≤ 900; decide, ?_⟩⟩
    refine q d _ nd da (fun b h1 h2 => ?_) ?_ upd_same
    · rw [upd_ne h2, upd_ne h1, upd_ne h2]
    · rw [upd_ne (Ne.symm da)]
      exact upd_same
theorem mkx_NoMoment (T : Tp K mg) : MkB bLE P w K mg base 3 "NoMoment" (He.ga K "NoMoment") (sp_exc1 K (He.ga K "NoMoment") "NoMoment" "name") := by
  obtain ⟨fd, F⟩ := f_NoMoment_UinitU T
  obtain ⟨fdT, FT⟩ := f_Missing_UinitU T
  have F1 := fn_Missing (P := P) (w := w) (base := base) T FT
  have kp := FT.kp
  have b1 := b_Missing FT
  refine ⟨_, fd, ["self", "name"], oe_NoMoment T, in_NoMoment T, fnok_of F sc_NoMoment_UinitU (fun vs H Q E h => ?_) (fun cdv A outer s H vs Q E hr h => ?_), g_NoMoment T, b_NoMoment_UinitU F⟩
  · obtain ⟨a, v, rfl, _⟩ := h
    rfl
  · obtain ⟨a, v, rfl, ha, q⟩ := h
    refine ⟨_, (pss_cons (ps_expr (pe_ci (cd_Missing T) rfl (g_Missing T) kp F1 hr (by decide) b1 (pa_cons (pv 0) (pa_cons pe_str (pa_cons pe_str pa_nil)))))
      (pss_one (ps_ox (b := bLE) (pv 0) (pv 1)))), ?_⟩
    refine ⟨_, rfl, a, He.ga K "NoMoment", _, _, rfl, oe_NoMoment T, nf_NoMoment_word T, ha, by decide +kernel, by decide +kernel, fun d nd da => ?_⟩
    refine ⟨_, rfl, _, rfl, a, He.ga K "NoMoment", rfl, oe_NoMoment T, nf_NoMoment_name T, .inr ⟨d, _, upd_same, by rw [upd_ne da]; exact upd_same, by show 1 ≤ 900; decide, ?_⟩⟩
    refine q d _ nd da (fun b h1 h2 => ?_) ?_ upd_same
    · rw [upd_ne h2, upd_ne h1, upd_ne h2]
    · rw [upd_ne (Ne.symm da)]
      exact upd_same
theorem mkx_NoPoint (T : Tp K mg) : MkB bLE P w K mg base 3 "NoPoint" (He.ga K "NoPoint") (sp_exc1 K (He.ga K "NoPoint") "NoPoint" "name") := by
  obtain ⟨fd, F⟩ := f_NoPoint_UinitU T
  obtain ⟨fdT, FT⟩ := f_Missing_UinitU T
  have F1 := fn_Missing (P := P) (w := w) (base := base) T FT
  have kp := FT.kp
  have b1 := b_Missing FT
  refine ⟨_, fd, ["self", "name"], oe_NoPoint T, in_NoPoint T, fnok_of F sc_NoPoint_UinitU (fun vs H Q E h => ?_) (fun cdv A outer s H vs Q E hr h => ?_), g_NoPoint T, b_NoPoint_UinitU F⟩
  · obtain ⟨a, v, rfl, _⟩ := h
    rfl
  · obtain ⟨a, v, rfl, ha, q⟩ := h
    refine ⟨_, (pss_cons (ps_expr (pe_ci (cd_Missing T) rfl (g_Missing T) kp F1 hr (by decide) b1 (pa_cons (pv 0) (pa_cons pe_str (pa_cons pe_str pa_nil)))))
      (pss_one (ps_ox (b := bLE) (pv 0) (pv 1)))), ?_⟩
    refine ⟨_, rfl, a, He.ga K "NoPoint", _, _, rfl, oe_NoPoint T, nf_NoPoint_word T, ha, by decide +kernel, by decide +kernel, fun d nd da => ?_⟩
    refine ⟨_, rfl, _, rfl, a, He.ga K "NoPoint", rfl, oe_NoPoint T, nf_NoPoint_name T, .inr ⟨d, _, upd_same, by rw [upd_ne da]; exact upd_same, by show 1 ≤ 900; decide, ?_⟩⟩
    refine q d _ nd da (fun b h1 h2 => ?_) ?_ upd_same
    · rw [upd_ne h2, upd_ne h1, upd_ne h2]
    · rw [upd_ne (Ne.symm da)]
      exact upd_same
theorem mkx_NoTie (T : Tp K mg) : MkB bLE P w K mg base 3 "NoTie" (He.ga K "NoTie") (sp_exc1 K (He.ga K "NoTie") "NoTie" "at") := by
  obtain ⟨fd, F⟩ := f_NoTie_UinitU T
  obtain ⟨fdT, FT⟩ := f_Missing_UinitU T
  have F1 := fn_Missing (P := P) (w := w) (base := base) T FT
  have kp := FT.kp
  have b1 := b_Missing FT
  refine ⟨_, fd, ["self", "at"], oe_NoTie T, in_NoTie T, fnok_of F sc_NoTie_UinitU (fun vs H Q E h => ?_) (fun cdv A outer s H vs Q E hr h => ?_), g_NoTie T, b_NoTie_UinitU F⟩
  · obtain ⟨a, v, rfl, _⟩ := h
    rfl
  · obtain ⟨a, v, rfl, ha, q⟩ := h
    refine ⟨_, (pss_cons (ps_expr (pe_ci (cd_Missing T) rfl (g_Missing T) kp F1 hr (by decide) b1 (pa_cons (pv 0) (pa_cons pe_str (pa_cons pe_str pa_nil)))))
      (pss_one (ps_ox (b := bLE) (pv 0) (pv 1)))), ?_⟩
    refine ⟨_, rfl, a, He.ga K "NoTie", _, _, rfl, oe_NoTie T, nf_NoTie_word T, ha, by decide +kernel, by decide +kernel, fun d nd da => ?_⟩
    refine ⟨_, rfl, _, rfl, a, He.ga K "NoTie", rfl, oe_NoTie T, nf_NoTie_at T, .inr ⟨d, _, upd_same, by rw [upd_ne da]; exact upd_same, by show 1 ≤ 900; decide, ?_⟩⟩
    refine q d _ nd da (fun b h1 h2 => ?_) ?_ upd_same
    · rw [upd_ne h2, upd_ne h1, upd_ne h2]
    · rw [upd_ne (Ne.symm da)]
      exact upd_same
theorem mkx_NoDeed (T : Tp K mg) : MkB bLE P w K mg base 3 "NoDeed" (He.ga K "NoDeed") (sp_exc1 K (He.ga K "NoDeed") "NoDeed" "at") := by
  obtain ⟨fd, F⟩ := f_NoDeed_UinitU T
  obtain ⟨fdT, FT⟩ := f_Missing_UinitU T
  have F1 := fn_Missing (P := P) (w := w) (base := base) T FT
  have kp := FT.kp
  have b1 := b_Missing FT
  refine ⟨_, fd, ["self", "at"], oe_NoDeed T, in_NoDeed T, fnok_of F sc_NoDeed_UinitU (fun vs H Q E h => ?_) (fun cdv A outer s H vs Q E hr h => ?_), g_NoDeed T, b_NoDeed_UinitU F⟩
  · obtain ⟨a, v, rfl, _⟩ := h
    rfl
  · obtain ⟨a, v, rfl, ha, q⟩ := h
    refine ⟨_, (pss_cons (ps_expr (pe_ci (cd_Missing T) rfl (g_Missing T) kp F1 hr (by decide) b1 (pa_cons (pv 0) (pa_cons pe_str (pa_cons pe_str pa_nil)))))
      (pss_one (ps_ox (b := bLE) (pv 0) (pv 1)))), ?_⟩
    refine ⟨_, rfl, a, He.ga K "NoDeed", _, _, rfl, oe_NoDeed T, nf_NoDeed_word T, ha, by decide +kernel, by decide +kernel, fun d nd da => ?_⟩
    refine ⟨_, rfl, _, rfl, a, He.ga K "NoDeed", rfl, oe_NoDeed T, nf_NoDeed_at T, .inr ⟨d, _, upd_same, by rw [upd_ne da]; exact upd_same, by show 1 ≤ 900; decide, ?_⟩⟩
    refine q d _ nd da (fun b h1 h2 => ?_) ?_ upd_same
    · rw [upd_ne h2, upd_ne h1, upd_ne h2]
    · rw [upd_ne (Ne.symm da)]
      exact upd_same
theorem mkx_NothingBack (T : Tp K mg) : MkB bIE P w K mg base 3 "NothingBack" (He.ga K "NothingBack") (sp_exc0 K (He.ga K "NothingBack") "NothingBack") := by
  obtain ⟨fd, F⟩ := f_NothingBack_UinitU T
  refine ⟨_, fd, ["self"], oe_NothingBack T, in_NothingBack T, fnok_of F sc_NothingBack_UinitU (fun vs H Q E h => ?_) (fun cdv A outer s H vs Q E hr h => ?_), g_NothingBack T, b_NothingBack_UinitU F⟩
  · obtain ⟨a, rfl, _⟩ := h
    rfl
  · obtain ⟨a, rfl, ha, q⟩ := h
    refine ⟨_, (pss_cons (ps_expr (pe_binit bIE_ok bb_IndexError rfl (z_IndexError T) (vi_IndexError T) rfl (pa_cons (pv 0) (pa_cons pe_str pa_nil))))
      (pss_one (ps_ox (b := bIE) (pv 0) pe_str))), ?_⟩
    refine ⟨_, rfl, a, _, _, rfl, (by show 1 ≤ 1000; decide), oe_NothingBack T, ha, ?_⟩
    exact ⟨_, rfl, a, _, rfl, oe_NothingBack T, nf_NothingBack_word T, .inl ⟨ha, fun d nd da => q d _ nd da (fun b h1 h2 => by rw [upd_ne h1, upd_ne h2]) upd_same (by rw [upd_ne da]; exact upd_same)⟩⟩
end
end Tw

set_option maxHeartbeats 4000000
namespace Tw
open PySem PySem.Spec PyProof.Rows L2
def inL (c : Nat) : Bool := decide (c ∈ letters.cps.toList)
def nmB (z : Str) : Bool := decide (1 ≤ z.length) && (decide (z.length ≤ 8) && z.cps.toList.all inL)
theorem nmB_ok {z : Str} : nmB z = true ↔ Nm z := by
  unfold nmB Nm inL
  simp only [Bool.and_eq_true, decide_eq_true_eq, List.all_eq_true]
end Tw

set_option maxHeartbeats 4000000
namespace Tw
open PySem PySem.Spec PyProof.Rows L2
section
variable {P : Program} {w : World} {K : PySem.W.Frag} {mg : Str → Option Value} {base : Heap}
def sp_isnm : Sp := fun vs H Q _ => ∃ z : Str, vs = [.str z] ∧ z.length ≤ 1000 ∧ ∀ H', Same H H' → Q (.bl (nmB z)) H'
theorem cal_isnm (T : Tp K mg) : Cal P w K mg base 2 "is_name" sp_isnm := by
  obtain ⟨fd, F⟩ := f_is_name T
  refine cal_of F (g_is_name T) (b_is_name F) sc_is_name (fun vs H Q E h => ?_) (fun cdv A outer s H vs Q E hr h => ?_)
  · obtain ⟨z, rfl, _⟩ := h
    rfl
  · obtain ⟨z, rfl, hz, q⟩ := h
    refine ⟨_, (pss_cons (ps_if (PW.pt (pw_or (pt_not (pt_val (pe_callB call_isK (by rfl) (z_isinstance T) bb_isinstance (pa_cons (pv 0) (pa_cons (pe_bltn (v := .ty "str") (by rfl) (z_str T) bb_str rfl) pa_nil))))) (pw_or1 (pt_not (pt_chain op_le op_le pe_int (pe_callB call_len_str (by rfl) (z_len T) bb_len (pa_cons (pv 0) pa_nil)) (C8.pe_gc (by rfl) (c_LONGEST_NAME T))))))) (pss_one (ps_ret pe_bl)) pss_nil)
      (pss_one (ps_ret (pe_callB (cr_all rfl) (by rfl) (z_all T) bb_all (pa_cons (pe_lc (own := [("letter", 1)]) (g := gName 1) (tt := tYes) rfl sc_is_name.nd (pi_str (pv 0)) (blkOk_by (N := N_is_name) (sc := defScope s_is_name) (by decide +kernel)) (fun _ _ _ _ _ => (pg_name (i := 1) sc_is_name.nd rfl (.inl rfl))) (fun _ _ _ _ _ => pts_nil) (fun _ _ _ _ _ => (pe_cmpR op_in_sign (pv 1) (C8.pe_gc (by rfl) (c_LETTERS T)) (by rfl)))) pa_nil))))), ?_⟩
    refine ⟨_, rfl, _, "str", "str", rfl, .base (.str _), by decide, by decide, _, rfl, ?_⟩
    refine iteF ⟨_, rfl, _, rfl, Nat.le_of_lt (small1000 hz), _, _, rfl, rfl, _, rfl, ?_⟩
    by_cases h1 : 1 ≤ z.length
    · rw [decide_eq_true (show (1 : Int) ≤ (z.length : Int) by omega)]
      refine iteT ⟨_, _, rfl, rfl, _, rfl, ?_⟩
      by_cases h2 : z.length ≤ 8
      · rw [decide_eq_true (show (z.length : Int) ≤ 8 by omega)]
        refine iteF ?_
        refine ⟨_, rfl, _, rfl, fun D nD => ?_⟩
        refine lc_it walk_str (fun i H1 => Same H H1 ∧ H1 D = some (.lst (((z.cps.toList.take i).map inL).map V.bl))) ⟨same_upd nD, upd_same⟩ (fun _ _ _ _ => trivial) ?_ ?_
        · rintro i x H1 H2 hi ⟨s1, d1⟩ ⟨rfl, c, hc, rfl⟩
          refine ⟨rfl, yes_i (iteT ⟨_, rfl, c, letters, rfl, rfl, ?_⟩)⟩
          have hc' : z.cps.toList[i]? = some c := by
            rw [Array.getElem?_toList]
            exact hc
          refine ⟨_, d1, ?_, ?_, ?_⟩
          · rw [List.length_map, List.length_map, List.length_take]
            have : z.cps.toList.length = z.length := Array.length_toList
            exact small1000 (by omega)
          · exact same_put s1 nD
          · rw [upd_same, List.take_add_one, hc', List.map_append, List.map_append]
            rfl
        · rintro H1 ⟨s1, d1⟩
          refine ⟨D, _, rfl, .inl (.inl d1), ?_⟩
          have e0 : z.cps.toList.take z.cps.size = z.cps.toList := List.take_of_length_le (by rw [Array.length_toList]; exact Nat.le_refl _)
          rw [e0, List.all_map]
          have q := q H1 s1
          unfold nmB at q
          rw [decide_eq_true h1, decide_eq_true h2, Bool.true_and, Bool.true_and] at q
          exact q
      · rw [decide_eq_false (show ¬ (z.length : Int) ≤ 8 by omega)]
        have q := q H (Same.refl H)
        unfold nmB at q
        rw [decide_eq_false h2, Bool.false_and, Bool.and_false] at q
        exact iteT q
    · rw [decide_eq_false (show ¬ (1 : Int) ≤ (z.length : Int) by omega)]
      have q := q H (Same.refl H)
      unfold nmB at q
      rw [decide_eq_false h1, Bool.false_and] at q
      exact iteF ⟨_, rfl, iteT q⟩
/-! ### need_free_name, with_moment, what they refuse told -/
def sp_nfX (K : PySem.W.Frag) : Sp := fun vs H Q E => ∃ (p : Addr) (m : Md) (z : Str), vs = [.ref p, .str z] ∧ WebAt (CW K) H p m ∧ z.length ≤ 1000 ∧ (¬ Nm z → Out H E (He.ga K "BadName") "BadName" "name" (.str z)) ∧ (Nm z → z ∈ m.pts → Out H E (He.ga K "Taken") "Taken" "name" (.str z)) ∧
  (Nm z → ¬ z ∈ m.pts → ∀ H', Same H H' → Q .non H')
theorem calx_need_free_name (T : Tp K mg) : CalX P w K mg base 5 "need_free_name" (sp_nfX K) := by
  obtain ⟨fd, F⟩ := f_need_free_name T
  refine calx_of F (g_need_free_name T) (b_need_free_name F) sc_need_free_name (fun vs H Q E h => ?_) (fun cdv A outer s H vs Q E hr h tk => ?_)
  · obtain ⟨p, m, z, rfl, _⟩ := h
    rfl
  · obtain ⟨p, m, z, rfl, W, hl, o1, o2, q⟩ := h
    refine ⟨_, (pss_cons (ps_if (pt_not (pt_val (C8.pe_c (cal_isnm T) hr (by decide) rfl (pa_cons (pv 1) pa_nil)))) (pss_one (ps_raise rfl tk (pmk_b (mkx_BadName T) hr (by decide) rfl (pa_cons (pv 1) pa_nil)))) pss_nil)
      (pss_one (ps_if (pt_cmpR op_in_seq (pv 1) (C8.pe_mt0 (met_Web_points T) hr (by decide) (pv 0)) (by rfl)) (pss_one (ps_raise rfl tk (pmk_b (mkx_Taken T) hr (by decide) rfl (pa_cons (pv 1) pa_nil)))) pss_nil))), ?_⟩
    refine ⟨_, rfl, z, rfl, hl, fun H1 s1 => ⟨_, rfl, ?_⟩⟩
    cases hn : nmB z with
    | false =>
      have nn : ¬ Nm z := fun h => by
        rw [nmB_ok.mpr h] at hn
        cases hn
      exact iteT ⟨_, rfl, mk_out ((o1 nn).same s1)⟩
    | true =>
      have hn := nmB_ok.mp hn
      refine iteF ?_
      have W1 := W.same s1
      obtain ⟨dx, a, b, c, ws, bs, h1, _⟩ := W1.ex
      refine ⟨_, rfl, _, rfl, p, dx, _, rfl, h1, wf_no (by decide +kernel), p, m, rfl, W1, fun k H2 s2 nk ek => ?_⟩
      refine ⟨k, _, rfl, .inl (.inl (.inl ek)), rfl, flat_strs _, _, rfl, ?_⟩
      show if inV (.str z) (m.pts.map V.str) = true then _ else _
      rw [in_strs]
      by_cases hz : z ∈ m.pts
      · rw [decide_eq_true hz]
        exact iteT ⟨_, rfl, mk_out ((o2 hn hz).same (s1.trans s2))⟩
      · rw [decide_eq_false hz]
        exact iteF (q hn hz H2 (s1.trans s2))
def sp_wmX (K : PySem.W.Frag) : Sp := fun vs H Q E => ∃ (p : Addr) (m : Md) (z : Str), vs = [.ref p, .str z] ∧ WebAt (CW K) H p m ∧ z.length ≤ 1000 ∧ (¬ Nm z → Out H E (He.ga K "BadName") "BadName" "name" (.str z)) ∧ (Nm z → z ∈ m.pts → Out H E (He.ga K "Taken") "Taken" "name" (.str z)) ∧
  (Nm z → ¬ z ∈ m.pts → ¬ m.own.length < 10 → Out H E (He.ga K "Full") "Full" "most" (.int 10)) ∧
  (Nm z → ¬ z ∈ m.pts → m.own.length < 10 → ∀ (q : Addr) (H' : Hp), Same H H' → H q = none → WebAt (CW K) H' q (m.addM z) → Q (.ref q) H')
theorem metx_Web_with_moment (T : Tp K mg) : MetX P w K mg base 6 (CW K) "with_moment" (sp_wmX K) := by
  obtain ⟨fd, F⟩ := f_Web_with_moment T
  refine metx_of F (cl_Web T) (me_Web_with_moment T) (b_Web_with_moment F) sc_Web_with_moment (fun vs H Q E h => ?_) (fun cdv A outer s H vs Q E hr h tk => ?_)
  · obtain ⟨p, m, z, rfl, _⟩ := h
    rfl
  · obtain ⟨p, m, z, rfl, W, hzl, o1, o2, o3, q⟩ := h
    refine ⟨_, (pss_cons (ps_expr (pe_cx (calx_need_free_name T) tk (fun _ _ _ _ h => h) hr (by decide) rfl (pa_cons (pv 0) (pa_cons (pv 1) pa_nil))))
      (pss_cons (ps_if (pt_cmpR op_ge (pe_callB call_len_seq (by rfl) (z_len T) bb_len (pa_cons (pe_fld (pv 0) rfl) pa_nil)) (C8.pe_gc (by rfl) (c_MOST_MOMENTS T)) (nomark _)) (pss_one (ps_raise rfl tk (pmk_b (mkx_Full T) hr (by decide) rfl (pa_cons (C8.pe_gc (by rfl) (c_MOST_MOMENTS T)) pa_nil)))) pss_nil)
      (pss_one (ps_ret (C8.pe_c (cal_woven T) hr (by decide) rfl (pa_cons (pe_fld (pv 0) rfl) (pa_cons (pe_tup (StX.pa_star (pe_fld (pv 0) rfl) (pa_cons (pv 1) pa_nil))) (pa_cons (pe_fld (pv 0) rfl) (pa_cons (pe_fld (pv 0) rfl) pa_nil))))))))), ?_⟩
    refine ⟨_, rfl, _, rfl, p, m, z, rfl, W, hzl, o1, o2, fun hn hz H1 s1 => ?_⟩
    have o3 := o3 hn hz
    have q := q hn hz
    have W1 := W.same s1
    obtain ⟨dx, a, b, c, ws, bs, h1, h2, h3, h4, h5, h6⟩ := W1.ex
    have hlen := W.len
    refine ⟨_, rfl, p, CW K, dx, _, _, rfl, h1, cl_Web T, na_moment_rows T, wf_m, a, _, rfl, .inr (.inl (.inl h2)), _, _, rfl, rfl, _, rfl, ?_⟩
    by_cases hl : m.own.length < 10
    · rw [decide_eq_false (by rw [List.length_map]; omega)]
      have q := q hl
      refine iteF ?_
      refine ⟨_, rfl, p, CW K, dx, _, _, rfl, h1, cl_Web T, na_by T, wf_by, _, rfl, p, CW K, dx, _, _, rfl, h1, cl_Web T, na_moment_rows T, wf_m, a, _, rfl, .inl (.inl (.inl h2)), _, rfl, ?_, fun t nt => ?_⟩
      · rw [List.length_append, List.length_map]
        exact Nat.le_of_lt (small1000 (by show _ + 1 ≤ 1000; omega))
      · have s2 := same_upd (o := .tup (m.own.map V.str ++ [.str z])) nt
        refine ⟨_, rfl, p, CW K, dx, _, _, rfl, s2 _ _ h1, cl_Web T, na_span_rows T, wf_s, _, rfl, p, CW K, dx, _, _, rfl, s2 _ _ h1, cl_Web T, na_tie_rows T, wf_t, ?_⟩
        refine ⟨m.addM z, t, b, c, ws, bs, rfl, ?_, s2 _ _ h3, h4.keep (Kt.of s2), s2 _ _ h5, h6.keep (Kt.of s2), ⟨?_, hlen.2.1, hlen.2.2⟩, W.last, fun x H2 s3 nx W3 => q x H2 ((s1.trans s2).trans s3) ((s1.trans s2).free nx) W3⟩
        · rw [upd_same]
          show _ = some (HO.tup ((m.own ++ [z]).map V.str))
          rw [List.map_append]
          rfl
        · show (m.own ++ [z]).length ≤ 10
          rw [List.length_append]
          show _ + 1 ≤ 10
          omega
    · rw [decide_eq_true (by rw [List.length_map]; omega)]
      exact iteT (mk_out ((o3 hl).same s1))
end
end Tw

set_option maxHeartbeats 4000000
namespace Tw
open PySem PySem.Spec PyProof.Rows L2
section
variable {P : Program} {w : World} {K : PySem.W.Frag} {mg : Str → Option Value} {base : Heap}
def sp_isbg (K : PySem.W.Frag) : Sp := fun vs H Q _ => ∃ (p : Addr) (m : Md) (z : Str), vs = [.ref p, .str z] ∧ WebAt (CW K) H p m ∧ ∀ H', Same H H' → Q (.bl (decide (z ∈ ("start" : Str) :: m.own))) H'
theorem cal_isbg (T : Tp K mg) : Cal P w K mg base 3 "is_begin" (sp_isbg K) := by
  obtain ⟨fd, F⟩ := f_is_begin T
  refine cal_of F (g_is_begin T) (b_is_begin F) sc_is_begin (fun vs H Q E h => ?_) (fun cdv A outer s H vs Q E hr h => ?_)
  · obtain ⟨p, m, z, rfl, _⟩ := h
    rfl
  · obtain ⟨p, m, z, rfl, W, q⟩ := h
    obtain ⟨dx, a, b, c, ws, bs, h1, _⟩ := W.ex
    refine ⟨_, (pss_one (ps_ret (C8.pe_c (cal_is_one_of T) hr (by decide) rfl (pa_cons (pv 1) (pa_cons (pe_op op_cat (pe_lst (pa_cons (C8.pe_gc (by rfl) (c_START T)) pa_nil)) (C8.pe_mt0 (met_Web_moments T) hr (by decide) (pv 0))) pa_nil))))), ?_⟩
    refine ⟨_, rfl, by show 1 ≤ sizeLine; decide, fun l nl => ?_⟩
    have s1 : Same H (upd H l (.lst [.str "start"])) := same_upd nl
    refine ⟨_, rfl, p, dx, _, rfl, s1 _ _ h1, wf_no (by decide +kernel), p, m, rfl, W.same s1, fun k nk => ?_⟩
    have nlk : l ≠ k := fun e => by
      rw [← e, upd_same] at nk
      cases nk
    have s2 := same_upd (o := .lst (m.own.map V.str)) nk
    refine ⟨l, k, _, _, rfl, rfl, (by rw [upd_ne nlk]; exact upd_same), upd_same, ?_, fun r nr => ?_⟩
    · rw [List.length_map]
      have hl := W.len
      exact Nat.le_of_lt (small1000 (by show 1 + _ ≤ 1000; omega))
    · have s3 := same_upd (o := .lst ([.str "start"] ++ m.own.map V.str)) nr
      exact ⟨z, r, "start" :: m.own, rfl, upd_same, q _ ((s1.trans s2).trans s3)⟩
/-- what with_span refuses, in its order -/
structure SpanX (K : PySem.W.Frag) (H : Hp) (E : XK) (m : Md) (y z : Str) (a b h : V) : Prop where
  nm : ¬ Nm y → Out H E (He.ga K "BadName") "BadName" "name" (.str y)
  tk : Nm y → y ∈ m.pts → Out H E (He.ga K "Taken") "Taken" "name" (.str y)
  bg : Nm y → ¬ y ∈ m.pts → ¬ z ∈ ("start" : Str) :: m.own → Out H E (He.ga K "NoMoment") "NoMoment" "name" (.str z)
  ln : Nm y → ¬ y ∈ m.pts → z ∈ ("start" : Str) :: m.own → lenB a b = false → Out2 H E (He.ga K "BadLength") "BadLength" "low" "high" a b
  la : Nm y → ¬ y ∈ m.pts → z ∈ ("start" : Str) :: m.own → lenB a b = true → lateB h = false → Out H E (He.ga K "BadLate") "BadLate" "late" h
  fl : Nm y → ¬ y ∈ m.pts → z ∈ ("start" : Str) :: m.own → lenB a b = true → lateB h = true → ¬ m.wd.length < 4 → Out H E (He.ga K "Full") "Full" "most" (.int 4)
def sp_spanX (K : PySem.W.Frag) : Sp := fun vs H Q E => ∃ (p : Addr) (m : Md) (y z : Str) (a b h : V), vs = [.ref p, .str y, .str z, a, b, h] ∧ WebAt (CW K) H p m ∧ y.length ≤ 1000 ∧ (plK a).isSome = true ∧ (plK b).isSome = true ∧ (plK h).isSome = true ∧ SpanX K H E m y z a b h ∧
  (Nm y → ¬ y ∈ m.pts → z ∈ ("start" : Str) :: m.own → lenB a b = true → lateB h = true → m.wd.length < 4 → ∀ (i j : Int) (o : Option Int), a = .int i → b = .int j → h = oV o → ∀ (q : Addr) (H' : Hp), Same H H' → H q = none → WebAt (CW K) H' q (m.addS ⟨y, z, i, j, o⟩) → Q (.ref q) H')
theorem fnx_with_span (T : Tp K mg) {fd : FuncData} (F : FunD K "with_span" "Web.with_span" (defArgs s_Web_with_span) (defBody s_Web_with_span) (defScope s_Web_with_span) [] [("late", V.int 0)] (He.ma K (He.ga K "Web") "with_span") fd) :
    FnOk P w K mg base (L2.CX P w) 6 (He.ma K (He.ga K "Web") "with_span") fd ["self", "end", "begin", "low", "high", "late"] (sp_spanX K) := by
  refine fnx_of F sc_Web_with_span (fun vs H Q E h => ?_) (fun cdv A outer s H vs Q E hr h tk => ?_)
  · obtain ⟨p, m, y, z, a, b, h, rfl, _⟩ := h
    rfl
  · obtain ⟨p, m, y, z, a, b, h, rfl, W, hyl, pa, pb, ph, O, q⟩ := h
    have hlen := W.len
    refine ⟨_, (pss_cons (ps_expr (pe_cx (calx_need_free_name T) tk (fun _ _ _ _ h => h) hr (by decide) rfl (pa_cons (pv 0) (pa_cons (pv 1) pa_nil))))
      (pss_cons (ps_if (pt_not (pt_val (C8.pe_c (cal_isbg T) hr (by decide) rfl (pa_cons (pv 0) (pa_cons (pv 2) pa_nil))))) (pss_one (ps_raise rfl tk (pmk_b (mkx_NoMoment T) hr (by decide) rfl (pa_cons (pv 2) pa_nil)))) pss_nil)
      (pss_cons (ps_if (pt_not (pt_val (C8.pe_c (cal_are_lengths T) hr (by decide) rfl (pa_cons (pv 3) (pa_cons (pv 4) pa_nil))))) (pss_one (ps_raise rfl tk (pmk_b (mkx_BadLength T) hr (by decide) rfl (pa_cons (pv 3) (pa_cons (pv 4) pa_nil))))) pss_nil)
      (pss_cons (ps_if (pt_not (pt_val (C8.pe_c (cal_is_lateness T) hr (by decide) rfl (pa_cons (pv 5) pa_nil)))) (pss_one (ps_raise rfl tk (pmk_b (mkx_BadLate T) hr (by decide) rfl (pa_cons (pv 5) pa_nil)))) pss_nil)
      (pss_cons (ps_if (pt_cmpR op_ge (pe_callB call_len_seq (by rfl) (z_len T) bb_len (pa_cons (pe_fld (pv 0) rfl) pa_nil)) (C8.pe_gc (by rfl) (c_MOST_SPANS T)) (nomark _)) (pss_one (ps_raise rfl tk (pmk_b (mkx_Full T) hr (by decide) rfl (pa_cons (C8.pe_gc (by rfl) (c_MOST_SPANS T)) pa_nil)))) pss_nil)
      (pss_cons (ps_set (i := 6) sc_Web_with_span.nd rfl (.inl rfl) (pe_tup (pa_cons (pv 1) (pa_cons (pv 2) (pa_cons (pv 3) (pa_cons (pv 4) (pa_cons (pv 5) pa_nil)))))))
      (pss_one (ps_ret (C8.pe_c (cal_woven T) hr (by decide) rfl (pa_cons (pe_fld (pv 0) rfl) (pa_cons (pe_fld (pv 0) rfl) (pa_cons (pe_tup (StX.pa_star (pe_fld (pv 0) rfl) (pa_cons (pv 6) pa_nil))) (pa_cons (pe_fld (pv 0) rfl) pa_nil))))))))))))), ?_⟩
    refine ⟨_, rfl, _, rfl, p, m, y, rfl, W, hyl, O.nm, O.tk, fun hn hy H1 s1 => ?_⟩
    have W1 := W.same s1
    refine ⟨_, rfl, _, rfl, p, m, z, rfl, W1, fun H2 s2 => ⟨_, rfl, ?_⟩⟩
    have s12 := s1.trans s2
    by_cases hz : z ∈ ("start" : Str) :: m.own
    · rw [decide_eq_true hz]
      refine iteF ?_
      refine ⟨_, rfl, _, rfl, a, b, rfl, pa, pb, _, rfl, ?_⟩
      cases hL : lenB a b with
      | false => exact iteT ⟨_, rfl, _, rfl, mk_out2 ((O.ln hn hy hz hL).same s12)⟩
      | true =>
        obtain ⟨i, j, rfl, rfl, i1, ij, j2⟩ := len_ok hL
        refine iteF ⟨_, rfl, h, rfl, ph, _, rfl, ?_⟩
        cases hlate : lateB h with
        | false => exact iteT ⟨_, rfl, mk_out ((O.la hn hy hz hL hlate).same s12)⟩
        | true =>
          obtain ⟨o, eo, ho⟩ := late_ok hlate
          have W2 := W1.same s2
          obtain ⟨dx, a, b, c, ws, bs, h1, h2, h3, h4, h5, h6⟩ := W2.ex
          have hw : ws.length = m.wd.length := by rw [h4.len, List.length_map]
          refine iteF ?_
          refine ⟨_, rfl, p, CW K, dx, _, _, rfl, h1, cl_Web T, na_span_rows T, wf_s, b, _, rfl, .inr (.inl (.inl h3)), _, _, rfl, rfl, _, rfl, ?_⟩
          by_cases few : m.wd.length < 4
          · rw [decide_eq_false (by rw [hw]; omega)]
            have q := q hn hy hz hL hlate few i j o rfl rfl eo
            refine iteF ?_
            refine ⟨_, rfl, _, rfl, _, rfl, _, rfl, _, rfl, (by show 5 ≤ sizeLine; decide), fun t nt => ?_⟩
            have s3 := same_upd (o := .tup [.str y, .str z, .int i, .int j, h]) nt
            refine ⟨_, rfl, p, CW K, dx, _, _, rfl, s3 _ _ h1, cl_Web T, na_by T, wf_by, _, rfl, p, CW K, dx, _, _, rfl, s3 _ _ h1, cl_Web T, na_moment_rows T, wf_m, _, rfl, p, CW K, dx, _, _, rfl, s3 _ _ h1, cl_Web T, na_span_rows T, wf_s, b, _, rfl, .inl (.inl (.inl (s3 _ _ h3))), .ref t, rfl, ?_, fun u nu => ?_⟩
            · rw [List.length_append]
              exact Nat.le_of_lt (small1000 (by show _ + 1 ≤ 1000; omega))
            · have s4 := same_upd (o := .tup (ws ++ [.ref t])) nu
              have s5 := s3.trans s4
              refine ⟨_, rfl, p, CW K, dx, _, _, rfl, s5 _ _ h1, cl_Web T, na_tie_rows T, wf_t, ?_⟩
              have rw' : Rows (upd (upd H2 t (.tup [.str y, .str z, .int i, .int j, h])) u (.tup (ws ++ [.ref t]))) (ws ++ [.ref t]) ((m.addS ⟨y, z, i, j, o⟩).wd.map Wd.row) := by
                show Rows _ _ ((m.wd ++ [(⟨y, z, i, j, o⟩ : Wd)]).map Wd.row)
                rw [List.map_append]
                refine (h4.keep (Kt.of s5)).snoc ?_
                rw [eo] at s4 ⊢
                exact s4 _ _ upd_same
              refine ⟨m.addS ⟨y, z, i, j, o⟩, a, u, c, ws ++ [V.ref t], bs, rfl, s5 _ _ h2, upd_same, rw', s5 _ _ h5, h6.keep (Kt.of s5), ⟨hlen.1, ?_, hlen.2.2⟩, W.last, fun x H5 s6 nx W5 => q x H5 ((s12.trans s5).trans s6) ((s12.trans s5).free nx) W5⟩
              show (m.wd ++ [(⟨y, z, i, j, o⟩ : Wd)]).length ≤ 4
              rw [List.length_append]
              show _ + 1 ≤ 4
              omega
          · rw [decide_eq_true (by rw [hw]; omega)]
            exact iteT (mk_out ((O.fl hn hy hz hL hlate few).same s12))
    · rw [decide_eq_false hz]
      exact iteT ⟨_, rfl, mk_out ((O.bg hn hy hz).same s12)⟩
theorem mgx_Web_with_span_late (T : Tp K mg) : MetG P w K mg base (L2.CX P w) 6 (CW K) "with_span" (sp_spanX K) 5 ["late"] (fun us ws => us ++ ws) := by
  obtain ⟨fd, F⟩ := f_Web_with_span T
  exact ⟨_, fd, _, _, cl_Web T, me_Web_with_span T, fnx_with_span T F, kbn_by F (fun us ws => us ++ ws) (fun r1 r2 => r1.append r2) fun kV doc pm an cdv ct us ws h1 h2 => match us, ws, h1, h2 with
    | [_, _, _, _, _], [_], _, _ => rfl⟩
theorem mgx_Web_with_span (T : Tp K mg) : MetG P w K mg base (L2.CX P w) 6 (CW K) "with_span" (sp_spanX K) 5 [] (fun us ws => us ++ ([.int 0] ++ ws)) := by
  obtain ⟨fd, F⟩ := f_Web_with_span T
  obtain ⟨mv, hb⟩ := F.kbinds0 (ps := ["self", "end", "begin", "low", "high", "late"]) 5 [] [("late", .int 0)] (fun us mv ws => us ++ (mv ++ ws)) (by simp) (by simp) (fun r1 r2 r3 => r1.append (r2.append r3)) fun D doc pm an cdv ct us mv ws h1 h2 h3 => match us, mv, ws, h1, h2, h3 with
    | [_, _, _, _, _], [_], [], _, _, _ => ⟨_, _, _, _, _, _, rfl, rfl, rfl⟩
  exact ⟨_, fd, _, _, cl_Web T, me_Web_with_span T, fnx_with_span T F, hb⟩
theorem mg_Web_with_span (T : Tp K mg) : MetG P w K mg base CX0 6 (CW K) "with_span" (fun vs H Q _ => sp_spanX K vs H Q E0) 5 [] (fun us ws => us ++ ([.int 0] ++ ws)) := (mgx_Web_with_span T).calm
end
end Tw

set_option maxHeartbeats 4000000
namespace Tw
open PySem PySem.Spec PyProof.Rows L2
/-! ### the bounds of a tie, any plain values -/
def tlV (a b : V) : List V := [a, b].filter fun v => !decide (v = .non)
def leV : V → V → Bool
  | .int i, .int j => decide (i ≤ j)
  | _, _ => false
def tieBnd (a b : V) : Bool := (tlV a b).all (whB (-1000) 1000) && match (tlV a b).head?, (tlV a b).getLast? with
  | some x, some y => leV x y
  | _, _ => false
theorem bd_ok1 {a b : V} (h : tieBnd a b = true) : ∃ bo to : Option Int, a = oV bo ∧ b = oV to ∧ BOk bo to := by
  unfold tieBnd at h
  obtain ⟨h1, h2⟩ := Bool.and_eq_true_iff.mp h
  by_cases ea : a = .non
  · by_cases eb : b = .non
    · subst ea eb
      cases h2
    · subst ea
      have e : tlV .non b = [b] := by
        unfold tlV
        rw [List.filter_cons, List.filter_cons, if_neg (by simp), if_pos (by simp [eb])]
        rfl
      rw [e] at h1
      rw [List.all_cons, List.all_nil, Bool.and_true] at h1
      obtain ⟨i, rfl, i1, i2⟩ := wh_int h1
      exact ⟨none, some i, rfl, rfl, ⟨fun z => (by cases z.2), fun x z => (by cases z), fun x z => by cases z; exact ⟨i1, i2⟩, fun x y z => by cases z⟩⟩
  · by_cases eb : b = .non
    · subst eb
      have e : tlV a .non = [a] := by
        unfold tlV
        rw [List.filter_cons, List.filter_cons, if_pos (by simp [ea]), if_neg (by simp)]
        rfl
      rw [e] at h1
      rw [List.all_cons, List.all_nil, Bool.and_true] at h1
      obtain ⟨i, rfl, i1, i2⟩ := wh_int h1
      exact ⟨some i, none, rfl, rfl, ⟨fun z => (by cases z.1), fun x z => by cases z; exact ⟨i1, i2⟩, fun x z => (by cases z), fun x y _ z => by cases z⟩⟩
    · have e : tlV a b = [a, b] := by
        unfold tlV
        rw [List.filter_cons, List.filter_cons, if_pos (by simp [ea]), if_pos (by simp [eb])]
        rfl
      rw [e] at h1 h2
      rw [List.all_cons, List.all_cons, List.all_nil, Bool.and_true, Bool.and_eq_true] at h1
      obtain ⟨i, rfl, i1, i2⟩ := wh_int h1.1
      obtain ⟨j, rfl, j1, j2⟩ := wh_int h1.2
      have hij : i ≤ j := of_decide_eq_true (show decide (i ≤ j) = true from h2)
      exact ⟨some i, some j, rfl, rfl, ⟨fun z => (by cases z.1), fun x z => by cases z; exact ⟨i1, i2⟩, fun x z => by cases z; exact ⟨j1, j2⟩, fun x y z1 z2 => by cases z1; cases z2; exact hij⟩⟩
theorem fm_flt {α : Type} (l : List α) (p : α → Bool) : l.filterMap (fun x => if p x = true then some x else none) = l.filter p := by
  induction l with
  | nil => rfl
  | cons a r ih =>
    rw [List.filterMap_cons, List.filter_cons, ih]
    cases p a <;> rfl
theorem fm_mp {α β : Type} (l : List α) (f : α → β) : l.filterMap (fun x => some (f x)) = l.map f := by
  induction l with
  | nil => rfl
  | cons a r ih => rw [List.filterMap_cons, List.map_cons, ih]
section
variable {P : Program} {w : World} {K : PySem.W.Frag} {mg : Str → Option Value} {base : Heap}
def sp_areb : Sp := fun vs H Q _ => ∃ a b : V, vs = [a, b] ∧ (plK a).isSome = true ∧ (plK b).isSome = true ∧ ∀ H', Same H H' → Q (.bl (tieBnd a b)) H'
theorem cal_areb (T : Tp K mg) : Cal P w K mg base 3 "are_bounds" sp_areb := by
  obtain ⟨fd, F⟩ := f_are_bounds T
  refine cal_of F (g_are_bounds T) (b_are_bounds F) sc_are_bounds (fun vs H Q E h => ?_) (fun cdv A outer s H vs Q E hr h => ?_)
  · obtain ⟨a, b, rfl, _⟩ := h
    rfl
  · obtain ⟨a, b, rfl, pa, pb, q⟩ := h
    refine ⟨_, (pss_cons (ps_setLc (i := 2) (own := [("bound", 3)]) (g := gName 3) rfl sc_are_bounds.nd rfl rfl (sw_true rfl rfl rfl (by decide +kernel)) (pi_tup (pe_tup (pa_cons (pv 0) (pa_cons (pv 1) pa_nil)))) (blkOk_by (N := N_are_bounds) (sc := defScope s_are_bounds) (by decide +kernel)) (fun _ _ _ _ _ => (pg_name (i := 3) sc_are_bounds.nd rfl (.inl rfl))) (fun _ _ _ _ _ => (pts_one (pt_cmpR op_notN (pv 3) pe_non (nomark _)))) (fun _ _ _ _ _ => (pv 3)))
      (pss_cons (ps_if (pt_not (pt_val (pe_callB (cr_all rfl) (by rfl) (z_all T) bb_all (pa_cons (pe_lc (own := [("bound", 3)]) (g := gName 3) (tt := tYes) rfl sc_are_bounds.nd (pi_list (pv 2)) (blkOk_by (N := N_are_bounds) (sc := defScope s_are_bounds) (by decide +kernel)) (fun _ _ _ _ _ => (pg_name (i := 3) sc_are_bounds.nd rfl (.inl rfl))) (fun _ _ _ _ _ => pts_nil) (fun _ _ _ _ _ => (C8.pe_c (cal_iswh T) hr (by decide) rfl (pa_cons (pv 3) (pa_cons (pe_un un_neg (C8.pe_gc (by rfl) (c_MOST_BOUND T))) (pa_cons (C8.pe_gc (by rfl) (c_MOST_BOUND T)) pa_nil)))))) pa_nil)))) (pss_one (ps_ret pe_bl)) pss_nil)
      (pss_one (ps_ret (pe_and (pe_cmpR op_gt (pe_callB call_len_seq (by rfl) (z_len T) bb_len (pa_cons (pv 2) pa_nil)) pe_int (nomark _)) (pe_one (pe_cmpR op_le (pe_ix ix_list (pv 2) pe_int (fun _ _ => rfl)) (pe_ix ix_list (pv 2) (pe_un un_neg pe_int) (fun _ _ => rfl)) (nomark _)))))))), ?_⟩
    refine ⟨_, rfl, _, rfl, (by show 2 ≤ sizeLine; decide), fun t nt => ?_⟩
    have s1 : Same H (upd H t (.tup [a, b])) := same_upd nt
    refine ⟨t, rfl, ⟨_, .inl (.inl upd_same)⟩, fun D nD => ?_⟩
    refine lc_pure [a, b] (walk_tupN (xs := [a, b]) rfl) (fun v => if (!decide (v = V.non)) = true then some v else none) (SV id) (fun _ h => h) nD (by show 2 ≤ 1000; decide) (fun H s => .inl (.inl (s _ _ upd_same))) ?_ ?_
    · rintro i x v H1 _ ex s2 ⟨rfl, hv⟩ Good Bad kt kf
      have e : v = x := by
        rw [ex] at hv
        cases hv
        rfl
      subst e
      have hsc : scal v .non = true := by
        have hm : v = a ∨ v = b := by
          have := List.mem_of_getElem? ex
          simpa using this
        have hp : (plK v).isSome = true := by
          rcases hm with h | h <;> rw [h] <;> assumption
        cases v <;> first | rfl | cases hp
      refine ⟨rfl, _, rfl, rfl, _, rfl, ?_⟩
      cases e : !decide (v = V.non) with
      | true => exact iteT ⟨_, rfl, kt _ _ _ (by rw [if_pos e]) (Same.refl _) rfl⟩
      | false => exact iteF (kf (by rw [if_neg (by rw [e]; simp)]) _ (Same.refl _))
    · intro H1 acc s2 d1 p1
      have ea := paired_enc p1
      rw [fm_flt, List.map_id] at ea
      have ea : acc = tlV a b := ea
      subst ea
      have s3 := s1.trans s2
      have hpl : ∀ v ∈ tlV a b, (plK v).isSome = true := fun v hv => by
        have hm := (List.mem_filter.mp hv).1
        have hm : v = a ∨ v = b := by simpa using hm
        rcases hm with h | h <;> rw [h] <;> assumption
      have hlen : (tlV a b).length ≤ 2 := List.length_filter_le _ _
      refine ⟨_, rfl, D, rfl, ⟨_, .inl (.inl d1)⟩, fun L nL => ?_⟩
      refine lc_pure (tlV a b) (walk_listN (xs := tlV a b) rfl) (fun v => some (whB (-1000) 1000 v)) (SV V.bl) (fun _ h => h) nL (by omega) (fun H s => .inl (.inl (s _ _ d1))) ?_ ?_
      · rintro i x v H2 _ ex s4 ⟨rfl, hv⟩ Good Bad kt kf
        have e : v = x := by
          rw [ex] at hv
          cases hv
          rfl
        subst e
        exact ⟨rfl, yes_i (iteT ⟨_, rfl, 1000, rfl, v, -1000, 1000, rfl, hpl v (List.mem_of_getElem? ex), kt _ _ _ rfl (Same.refl _) rfl⟩)⟩
      · intro H2 acc s4 d2 p2
        have ea := paired_enc p2
        rw [fm_mp] at ea
        subst ea
        refine ⟨L, _, rfl, .inl (.inl d2), _, rfl, ?_⟩
        rw [List.all_map]
        have s5 := s3.trans s4
        have q := q H2 s5
        unfold tieBnd at q
        cases hall : (tlV a b).all (id ∘ whB (-1000) 1000) with
        | false =>
          rw [show (tlV a b).all (whB (-1000) 1000) = false from hall, Bool.false_and] at q
          exact iteT q
        | true =>
          have hall' : (tlV a b).all (whB (-1000) 1000) = true := hall
          rw [hall', Bool.true_and] at q
          refine iteF ?_
          have d4 := s4 _ _ d1
          refine ⟨_, rfl, D, _, rfl, .inl (.inl (.inl d4)), _, 0, rfl, rfl, _, rfl, ?_⟩
          generalize tlV a b = l at *
          match l, hlen with
          | [], _ => exact iteF q
          | [x], _ =>
            rw [List.all_cons, List.all_nil, Bool.and_true] at hall'
            obtain ⟨i, rfl, _, _⟩ := wh_int hall'
            refine iteT ⟨_, rfl, D, _, 0, .int i, rfl, rfl, .inl (.inl d4), atI_nat (j := 0) rfl, _, rfl, 1, rfl, D, _, _, .int i, rfl, rfl, .inl (.inl d4), ?_, i, i, rfl, rfl, q⟩
            exact atI_last [] _
          | [x, y], _ =>
            rw [List.all_cons, List.all_cons, List.all_nil, Bool.and_true, Bool.and_eq_true] at hall'
            obtain ⟨i, rfl, _, _⟩ := wh_int hall'.1
            obtain ⟨j, rfl, _, _⟩ := wh_int hall'.2
            refine iteT ⟨_, rfl, D, _, 0, .int i, rfl, rfl, .inl (.inl d4), atI_nat (j := 0) rfl, _, rfl, 1, rfl, D, _, _, .int j, rfl, rfl, .inl (.inl d4), ?_, i, j, rfl, rfl, q⟩
            exact atI_last [.int i] _
/-! ### need_point, with_tie with what they refuse -/
def sp_npB (K : PySem.W.Frag) : Sp := fun vs H Q E => ∃ (p : Addr) (m : Md) (z : Str), vs = [.ref p, .str z] ∧ WebAt (CW K) H p m ∧ (¬ z ∈ m.pts → Out H E (He.ga K "NoPoint") "NoPoint" "name" (.str z)) ∧ (z ∈ m.pts → ∀ H', Same H H' → Q .non H')
theorem calx_need_point (T : Tp K mg) : CalX P w K mg base 5 "need_point" (sp_npB K) := by
  obtain ⟨fd, F⟩ := f_need_point T
  refine calx_of F (g_need_point T) (b_need_point F) sc_need_point (fun vs H Q E h => ?_) (fun cdv A outer s H vs Q E hr h tk => ?_)
  · obtain ⟨p, m, z, rfl, _⟩ := h
    rfl
  · obtain ⟨p, m, z, rfl, W, o, q⟩ := h
    obtain ⟨dx, a, b, c, ws, bs, h1, _⟩ := W.ex
    refine ⟨_, (pss_one (ps_if (pt_not (pt_val (C8.pe_c (cal_is_one_of T) hr (by decide) rfl (pa_cons (pv 1) (pa_cons (C8.pe_mt0 (met_Web_points T) hr (by decide) (pv 0)) pa_nil))))) (pss_one (ps_raise rfl tk (pmk_b (mkx_NoPoint T) hr (by decide) rfl (pa_cons (pv 1) pa_nil)))) pss_nil)), ?_⟩
    refine ⟨_, rfl, _, rfl, p, dx, _, rfl, h1, wf_no (by decide +kernel), p, m, rfl, W, fun k H2 s2 nk ek => ?_⟩
    refine ⟨z, k, _, rfl, ek, _, rfl, ?_⟩
    by_cases hz : z ∈ m.pts
    · rw [decide_eq_true hz]
      exact iteF (q hz H2 s2)
    · rw [decide_eq_false hz]
      exact iteT ⟨_, rfl, mk_out ((o hz).same s2)⟩
def sp_tieX (K : PySem.W.Frag) : Sp := fun vs H Q E => ∃ (p : Addr) (m : Md) (y z : Str) (a b : V), vs = [.ref p, .str y, .str z, a, b] ∧ WebAt (CW K) H p m ∧ (plK a).isSome = true ∧ (plK b).isSome = true ∧ (¬ y ∈ m.pts → Out H E (He.ga K "NoPoint") "NoPoint" "name" (.str y)) ∧
  (y ∈ m.pts → ¬ z ∈ m.pts → Out H E (He.ga K "NoPoint") "NoPoint" "name" (.str z)) ∧ (y ∈ m.pts → z ∈ m.pts → (y = z ∨ tieBnd a b = false) → Out2 H E (He.ga K "BadTie") "BadTie" "least" "most" a b) ∧
  (y ∈ m.pts → z ∈ m.pts → ¬ y = z → tieBnd a b = true → ¬ m.bd.length < 40 → Out H E (He.ga K "Full") "Full" "most" (.int 40)) ∧
  (y ∈ m.pts → z ∈ m.pts → ¬ y = z → m.bd.length < 40 → ∀ bo to : Option Int, a = oV bo → b = oV to → BOk bo to → ∀ (q : Addr) (H' : Hp), Same H H' → H q = none → WebAt (CW K) H' q (m.addT ⟨y, z, bo, to⟩) → Q (.ref q) H')
theorem fnx_with_tie (T : Tp K mg) {fd : FuncData} (F : FunD K "with_tie" "Web.with_tie" (defArgs s_Web_with_tie) (defBody s_Web_with_tie) (defScope s_Web_with_tie) [] [("least", V.non), ("most", V.non)] (He.ma K (He.ga K "Web") "with_tie") fd) :
    FnOk P w K mg base (L2.CX P w) 6 (He.ma K (He.ga K "Web") "with_tie") fd ["self", "one", "other", "least", "most"] (sp_tieX K) := by
  refine fnx_of F sc_Web_with_tie (fun vs H Q E h => ?_) (fun cdv A outer s H vs Q E hr h tk => ?_)
  · obtain ⟨p, m, y, z, a, b, rfl, _⟩ := h
    rfl
  · obtain ⟨p, m, y, z, a, b, rfl, W, pa, pb, o1, o2, o3, o4, q⟩ := h
    have hlen := W.len
    refine ⟨_, (pss_cons (ps_expr (pe_cx (calx_need_point T) tk (fun _ _ _ _ h => h) hr (by decide) rfl (pa_cons (pv 0) (pa_cons (pv 1) pa_nil))))
      (pss_cons (ps_expr (pe_cx (calx_need_point T) tk (fun _ _ _ _ h => h) hr (by decide) rfl (pa_cons (pv 0) (pa_cons (pv 2) pa_nil))))
      (pss_cons (ps_if (PW.pt (pw_or (pt_cmpR op_eq (pv 1) (pv 2) (nomark _)) (pw_or1 (pt_not (pt_val (C8.pe_c (cal_areb T) hr (by decide) rfl (pa_cons (pv 3) (pa_cons (pv 4) pa_nil)))))))) (pss_one (ps_raise rfl tk (pmk_b (mkx_BadTie T) hr (by decide) rfl (pa_cons (pv 3) (pa_cons (pv 4) pa_nil))))) pss_nil)
      (pss_cons (ps_if (pt_cmpR op_ge (pe_callB call_len_seq (by rfl) (z_len T) bb_len (pa_cons (pe_fld (pv 0) rfl) pa_nil)) (C8.pe_gc (by rfl) (c_MOST_TIES T)) (nomark _)) (pss_one (ps_raise rfl tk (pmk_b (mkx_Full T) hr (by decide) rfl (pa_cons (C8.pe_gc (by rfl) (c_MOST_TIES T)) pa_nil)))) pss_nil)
      (pss_cons (ps_set (i := 5) sc_Web_with_tie.nd rfl (.inl rfl) (pe_tup (pa_cons (pv 1) (pa_cons (pv 2) (pa_cons (pv 3) (pa_cons (pv 4) pa_nil))))))
      (pss_one (ps_ret (C8.pe_c (cal_woven T) hr (by decide) rfl (pa_cons (pe_fld (pv 0) rfl) (pa_cons (pe_fld (pv 0) rfl) (pa_cons (pe_fld (pv 0) rfl) (pa_cons (pe_tup (StX.pa_star (pe_fld (pv 0) rfl) (pa_cons (pv 5) pa_nil))) pa_nil)))))))))))), ?_⟩
    refine ⟨_, rfl, _, rfl, p, m, y, rfl, W, o1, fun hy H1 s1 => ?_⟩
    refine ⟨_, rfl, _, rfl, p, m, z, rfl, W.same s1, fun hz => (o2 hy hz).same s1, fun hz H2 s2 => ?_⟩
    have o3 := o3 hy hz
    have s12 := s1.trans s2
    refine ⟨_, rfl, _, rfl, rfl, _, rfl, ?_⟩
    by_cases e : y = z
    · rw [decide_eq_true (show V.str y = V.str z by rw [e])]
      exact iteT ⟨_, rfl, _, rfl, mk_out2 ((o3 (.inl e)).same s12)⟩
    · rw [decide_eq_false (show ¬ V.str y = V.str z from fun h => e (V.str.inj h))]
      refine iteF ⟨_, rfl, _, rfl, a, b, rfl, pa, pb, fun H3 s3 => ⟨_, rfl, ?_⟩⟩
      cases hb : tieBnd a b with
      | false => exact iteT ⟨_, rfl, _, rfl, mk_out2 ((o3 (.inr hb)).same (s12.trans s3))⟩
      | true =>
        refine iteF ?_
        obtain ⟨bo, to, rfl, rfl, B⟩ := bd_ok1 hb
        have W3 := (W.same s12).same s3
        obtain ⟨dx, a, b, c, ws, bs, h1, h2, h3, h4, h5, h6⟩ := W3.ex
        have hbl : bs.length = m.bd.length := by rw [h6.len, List.length_map]
        refine ⟨_, rfl, p, CW K, dx, _, _, rfl, h1, cl_Web T, na_tie_rows T, wf_t, c, _, rfl, .inr (.inl (.inl h5)), _, _, rfl, rfl, _, rfl, ?_⟩
        by_cases few : m.bd.length < 40
        · rw [decide_eq_false (by rw [hbl]; omega)]
          have q := q hy hz e few bo to rfl rfl B
          refine iteF ?_
          refine ⟨_, rfl, _, rfl, _, rfl, _, rfl, (by show 4 ≤ sizeLine; decide), fun t nt => ?_⟩
          have s4 := same_upd (o := .tup (Bd.row ⟨y, z, bo, to⟩)) nt
          refine ⟨_, rfl, p, CW K, dx, _, _, rfl, s4 _ _ h1, cl_Web T, na_by T, wf_by, _, rfl, p, CW K, dx, _, _, rfl, s4 _ _ h1, cl_Web T, na_moment_rows T, wf_m, _, rfl, p, CW K, dx, _, _, rfl, s4 _ _ h1, cl_Web T, na_span_rows T, wf_s, _, rfl, p, CW K, dx, _, _, rfl, s4 _ _ h1, cl_Web T, na_tie_rows T, wf_t, c, _, rfl, .inl (.inl (.inl (s4 _ _ h5))), .ref t, rfl, ?_, fun u nu => ?_⟩
          · rw [List.length_append]
            exact Nat.le_of_lt (small1000 (by show _ + 1 ≤ 1000; omega))
          · have s5 := same_upd (o := .tup (bs ++ [.ref t])) nu
            have s6 := s4.trans s5
            have rb' : Rows (upd (upd H3 t (.tup (Bd.row ⟨y, z, bo, to⟩))) u (.tup (bs ++ [.ref t]))) (bs ++ [.ref t]) ((m.addT ⟨y, z, bo, to⟩).bd.map Bd.row) := by
              show Rows _ _ ((m.bd ++ [(⟨y, z, bo, to⟩ : Bd)]).map Bd.row)
              rw [List.map_append]
              exact (h6.keep (Kt.of s6)).snoc (s5 _ _ upd_same)
            have sa := (s12.trans s3).trans s6
            refine ⟨m.addT ⟨y, z, bo, to⟩, a, b, u, ws, bs ++ [V.ref t], rfl, s6 _ _ h2, s6 _ _ h3, h4.keep (Kt.of s6), upd_same, rb', ⟨hlen.1, hlen.2.1, ?_⟩, W.last, fun x H5 s7 nx W5 => q x H5 (sa.trans s7) (sa.free nx) W5⟩
            show (m.bd ++ [(⟨y, z, bo, to⟩ : Bd)]).length ≤ 40
            rw [List.length_append]
            show _ + 1 ≤ 40
            omega
        · rw [decide_eq_true (by rw [hbl]; omega)]
          exact iteT (mk_out ((o4 hy hz e hb few).same (s12.trans s3)))
def gRev {α : Type} (us ws : List α) : List α := us ++ ws.reverse
theorem mgx_Web_with_tie_most_least (T : Tp K mg) : MetG P w K mg base (L2.CX P w) 6 (CW K) "with_tie" (sp_tieX K) 3 ["most", "least"] gRev := by
  obtain ⟨fd, F⟩ := f_Web_with_tie T
  exact ⟨_, fd, _, _, cl_Web T, me_Web_with_tie T, fnx_with_tie T F, kbn_by F gRev (fun r1 r2 => r1.append (vals_rev r2)) fun kV doc pm an cdv ct us ws h1 h2 => match us, ws, h1, h2 with
    | [_, _, _], [_, _], _, _ => rfl⟩
theorem mgx_Web_with_tie_least (T : Tp K mg) : MetG P w K mg base (L2.CX P w) 6 (CW K) "with_tie" (sp_tieX K) 3 ["least"] (fun us ws => us ++ (ws ++ [.non])) := by
  obtain ⟨fd, F⟩ := f_Web_with_tie T
  obtain ⟨mv, hb⟩ := F.kbinds0 (ps := ["self", "one", "other", "least", "most"]) 3 ["least"] [("most", .non)] (fun us mv ws => us ++ (ws ++ mv)) (by simp) (by simp) (fun r1 r2 r3 => r1.append (r3.append r2)) fun D doc pm an cdv ct us mv ws h1 h2 h3 => match us, mv, ws, h1, h2, h3 with
    | [_, _, _], [_], [_], _, _, _ => ⟨_, _, _, _, _, _, rfl, rfl, rfl⟩
  exact ⟨_, fd, _, _, cl_Web T, me_Web_with_tie T, fnx_with_tie T F, hb⟩
theorem mgx_Web_with_tie_most (T : Tp K mg) : MetG P w K mg base (L2.CX P w) 6 (CW K) "with_tie" (sp_tieX K) 3 ["most"] (fun us ws => us ++ ([.non] ++ ws)) := by
  obtain ⟨fd, F⟩ := f_Web_with_tie T
  obtain ⟨mv, hb⟩ := F.kbinds0 (ps := ["self", "one", "other", "least", "most"]) 3 ["most"] [("least", .non)] (fun us mv ws => us ++ (mv ++ ws)) (by simp) (by simp) (fun r1 r2 r3 => r1.append (r2.append r3)) fun D doc pm an cdv ct us mv ws h1 h2 h3 => match us, mv, ws, h1, h2, h3 with
    | [_, _, _], [_], [_], _, _, _ => ⟨_, _, _, _, _, _, rfl, rfl, rfl⟩
  exact ⟨_, fd, _, _, cl_Web T, me_Web_with_tie T, fnx_with_tie T F, hb⟩
theorem mg_Web_with_tie_most_least (T : Tp K mg) : MetG P w K mg base CX0 6 (CW K) "with_tie" (fun vs H Q _ => sp_tieX K vs H Q E0) 3 ["most", "least"] gRev := (mgx_Web_with_tie_most_least T).calm
theorem mg_Web_with_tie_least (T : Tp K mg) : MetG P w K mg base CX0 6 (CW K) "with_tie" (fun vs H Q _ => sp_tieX K vs H Q E0) 3 ["least"] (fun us ws => us ++ (ws ++ [.non])) := (mgx_Web_with_tie_least T).calm
theorem mg_Web_with_tie_most (T : Tp K mg) : MetG P w K mg base CX0 6 (CW K) "with_tie" (fun vs H Q _ => sp_tieX K vs H Q E0) 3 ["most"] (fun us ws => us ++ ([.non] ++ ws)) := (mgx_Web_with_tie_most T).calm
end
end Tw

set_option maxHeartbeats 4000000
namespace Tw
open PySem PySem.Spec PyProof.Rows L2
def usedB (m : Md) (z : Str) : Bool := decide (z ∈ m.wd.map (·.bg)) || m.bd.any fun b => decide (z ∈ [b.one, b.oth])
def Md.drp (m : Md) (z : Str) : Md := { m with own := m.own.filter fun x => !decide (x = z), wd := m.wd.filter fun x => !decide (x.en = z) }
def Md.unt (m : Md) (i : Nat) : Md := { m with bd := m.bd.eraseIdx i }
theorem bb_any : bootBuiltins "any" = some (.builtin "any") := by decide +kernel
theorem fm_map {α β : Type} (l : List α) (f : α → β) : l.filterMap (fun x => some (f x)) = l.map f := by
  induction l with
  | nil => rfl
  | cons a r ih => rw [List.filterMap_cons, List.map_cons, ih]
theorem fm_filter {α : Type} (l : List α) (p : α → Bool) : l.filterMap (fun x => if p x = true then some x else none) = l.filter p := by
  induction l with
  | nil => rfl
  | cons a r ih =>
    rw [List.filterMap_cons, List.filter_cons, ih]
    cases p a <;> rfl
theorem Rows.erase {H : Hp} : ∀ {xs : List V} {rs : List (List V)} (i : Nat), Rows H xs rs → Rows H (xs.eraseIdx i) (rs.eraseIdx i)
  | _, _, 0, .nil => .nil
  | _, _, _ + 1, .nil => .nil
  | _, _, 0, .cons _ t => t
  | _, _, i + 1, .cons h t => .cons h (Rows.erase i t)
theorem erase_mapX {α β : Type} (f : α → β) : ∀ (l : List α) (i : Nat), (l.eraseIdx i).map f = (l.map f).eraseIdx i
  | [], _ => rfl
  | _ :: _, 0 => rfl
  | a :: r, i + 1 => by
    show f a :: (r.eraseIdx i).map f = f a :: (r.map f).eraseIdx i
    rw [erase_mapX f r i]
theorem cut_erase {xs : List V} {i : Nat} (h : i < xs.length) : cutV xs none (some (i : Int)) ++ cutV xs (some ((i : Int) + 1)) none = xs.eraseIdx i := by
  unfold cutV
  rw [HT.sIx_none, HT.sIx_none, HT.sIx_nat, show ((i : Int) + 1) = ((i + 1 : Nat) : Int) from rfl, HT.sIx_nat, List.drop_zero, Nat.sub_zero, Nat.min_eq_left (Nat.le_of_lt h), Nat.min_eq_left (show i + 1 ≤ xs.length from h), List.eraseIdx_eq_take_drop_succ]
  congr 1
  exact List.take_of_length_le (by rw [List.length_drop]; exact Nat.le_refl _)
section
variable {P : Program} {w : World} {K : PySem.W.Frag} {mg : Str → Option Value} {base : Heap}
/-! ### woven of two lists -/
def sp_wovenL (K : PySem.W.Frag) : Sp := fun vs H Q _ => ∃ (m : Md) (a b c : Addr) (ws bs : List V), vs = [.int m.last, .ref a, .ref b, .ref c] ∧ H a = some (.lst (m.own.map V.str)) ∧ H b = some (.lst ws) ∧ Rows H ws (m.wd.map Wd.row) ∧ H c = some (.tup bs) ∧ Rows H bs (m.bd.map Bd.row) ∧
  (m.own.length ≤ 10 ∧ m.wd.length ≤ 4 ∧ m.bd.length ≤ 40) ∧ (1 ≤ m.last ∧ m.last ≤ 1000) ∧ ∀ (p : Addr) (H' : Hp), Same H H' → H p = none → WebAt (CW K) H' p m → Q (.ref p) H'
theorem cal_wovenL (T : Tp K mg) : Cal P w K mg base 5 "woven" (sp_wovenL K) := by
  obtain ⟨fd, F⟩ := f_woven T
  refine cal_of F (g_woven T) (b_woven F) sc_woven (fun vs H Q E h => ?_) (fun cdv A outer s H vs Q E hr h => ?_)
  · obtain ⟨m, a, b, c, ws, bs, rfl, _⟩ := h
    rfl
  · obtain ⟨m, a, b, c, ws, bs, rfl, ha, hb, rb, hc, rc, hl, hla, q⟩ := h
    refine ⟨_, (pss_cons (ps_set (i := 4) sc_woven.nd rfl (.inl rfl) (C8.pe_mk (mak_Web T) hr (by decide) rfl (pa_cons (pv 0) pa_nil)))
      (pss_cons (ps_fld (pv 4) (pe_callTy call_tuple_of (by rfl) (z_tuple T) bb_tuple (pa_cons (pv 1) pa_nil)) rfl)
      (pss_cons (ps_fld (pv 4) (pe_callTy call_tuple_of (by rfl) (z_tuple T) bb_tuple (pa_cons (pv 2) pa_nil)) rfl)
      (pss_cons (ps_fld (pv 4) (pe_callTy call_tuple_of (by rfl) (z_tuple T) bb_tuple (pa_cons (pv 3) pa_nil)) rfl)
      (pss_one (ps_ret (pv 4))))))), ?_⟩
    refine ⟨_, rfl, fun x dx nx ndx ne => ⟨x, dx, m.last, rfl, upd_same, hla.1, hla.2, fun a0 b0 c0 H1 kp hp ha0 hb0 hc0 => ⟨rfl, ?_⟩⟩⟩
    have s1 : Same H H1 := Same.made nx ndx kp
    have nbx : b ≠ x := ne_of_none hb nx
    have ncx : c ≠ x := ne_of_none hc nx
    refine ⟨_, rfl, a, _, rfl, .inl ⟨.inl (.inl (s1 _ _ ha)), fun ta nta => ?_⟩⟩
    have nxa : x ≠ ta := ne_of_none hp nta
    refine ⟨_, rfl, x, CW K, dx, _, rfl, (by rw [upd_ne nxa]; exact hp), cl_Web T, na_moment_rows T, (by show 4 < 1000; decide), ?_⟩
    have s2 : Same H (upd (upd H1 ta (.tup (m.own.map V.str))) x (.ins (CW K) dx (putF "moment_rows" (.ref ta) (wf m.last a0 b0 c0)))) := fun y o e => by
      rw [upd_ne (ne_of_none e nx), upd_ne (ne_of_none (s1 _ _ e) nta)]
      exact s1 _ _ e
    refine ⟨_, rfl, b, _, rfl, .inl ⟨.inl (.inl (s2 _ _ hb)), fun tb ntb => ?_⟩⟩
    have nxb : x ≠ tb := fun e => by
      rw [← e, upd_same] at ntb
      cases ntb
    have nab : ta ≠ tb := fun e => by
      rw [← e, upd_ne nxa.symm, upd_same] at ntb
      cases ntb
    refine ⟨_, rfl, x, CW K, dx, _, rfl, (by rw [upd_ne nxb]; exact up_eq (by rw [wf_pm])), cl_Web T, na_span_rows T, (by show 4 < 1000; decide), ?_⟩
    have s3 : Same H (upd (upd (upd (upd H1 ta (.tup (m.own.map V.str))) x (.ins (CW K) dx (putF "moment_rows" (.ref ta) (wf m.last a0 b0 c0)))) tb (.tup ws)) x (.ins (CW K) dx (putF "span_rows" (.ref tb) (wf m.last ta b0 c0)))) := fun y o e => by
      rw [upd_ne (ne_of_none e nx), upd_ne (ne_of_none (s2 _ _ e) ntb)]
      exact s2 _ _ e
    refine ⟨_, rfl, c, _, rfl, .inr ⟨.inl (.inl (s3 _ _ hc)), _, rfl, x, CW K, dx, _, rfl, up_eq (by rw [wf_ps]), cl_Web T, na_tie_rows T, (by show 4 < 1000; decide), ?_⟩⟩
    refine ⟨_, rfl, ?_⟩
    have s4 : ∀ o', Same H (upd (upd (upd (upd (upd H1 ta (.tup (m.own.map V.str))) x (.ins (CW K) dx (putF "moment_rows" (.ref ta) (wf m.last a0 b0 c0)))) tb (.tup ws)) x (.ins (CW K) dx (putF "span_rows" (.ref tb) (wf m.last ta b0 c0)))) x o') := fun o' y o e => by
      rw [upd_ne (ne_of_none e nx)]
      exact s3 _ _ e
    refine q x _ (s4 _) nx ⟨⟨dx, ta, tb, c, ws, bs, up_eq (by rw [wf_pt]), ?_, ?_, rb.keep (Kt.of (s4 _)), s4 _ _ _ hc, rc.keep (Kt.of (s4 _))⟩, hl, hla⟩
    · rw [upd_ne nxa.symm, upd_ne nxa.symm, upd_ne nab, upd_ne nxa.symm, upd_same]
    · rw [upd_ne nxb.symm, upd_ne nxb.symm, upd_same]
/-! ### is_used -/
def sp_is_used (K : PySem.W.Frag) : Sp := fun vs H Q _ => ∃ (p : Addr) (m : Md) (z : Str), vs = [.ref p, .str z] ∧ WebAt (CW K) H p m ∧ ∀ H', Same H H' → Q (.bl (usedB m z)) H'
theorem cal_is_used (T : Tp K mg) : Cal P w K mg base 3 "is_used" (sp_is_used K) := by
  obtain ⟨fd, F⟩ := f_is_used T
  refine cal_of F (g_is_used T) (b_is_used F) sc_is_used (fun vs H Q E h => ?_) (fun cdv A outer s H vs Q E hr h => ?_)
  · obtain ⟨p, m, z, rfl, _⟩ := h
    rfl
  · obtain ⟨p, m, z, rfl, W, q⟩ := h
    have hlen := W.len
    obtain ⟨dx, a, b, c, ws0, bs0, h1, _⟩ := W.ex
    refine ⟨_, (pss_cons (ps_setLc (i := 2) (own := [("span", 3)]) (g := gName 3) (tt := tYes) rfl sc_is_used.nd rfl rfl (sw_true rfl rfl rfl (by decide +kernel)) (pi_list (C8.pe_mt0 (met_Web_spans T) hr (by decide) (pv 0))) (blkOk_by (N := N_is_used) (sc := defScope s_is_used) (by decide +kernel)) (fun _ _ _ _ _ => (pg_name (i := 3) sc_is_used.nd rfl (.inl rfl))) (fun _ _ _ _ _ => pts_nil) (fun _ _ _ _ _ => (pe_ix (ix_tupK (K := K) rfl) (pv 3) pe_int (fun _ _ => rfl))))
      (pss_one (ps_ret (pe_or (pe_cmpR op_in_seq (pv 1) (pv 2) (by rfl)) (pe_one (pe_callB (cr_any rfl) (by rfl) (z_any T) bb_any (pa_cons (pe_lc (own := [("tie", 4)]) (g := gName 4) (tt := tYes) rfl sc_is_used.nd (pi_list (C8.pe_mt0 (met_Web_ties T) hr (by decide) (pv 0))) (blkOk_by (N := N_is_used) (sc := defScope s_is_used) (by decide +kernel)) (fun _ _ _ _ _ => (pg_name (i := 4) sc_is_used.nd rfl (.inl rfl))) (fun _ _ _ _ _ => pts_nil) (fun _ _ _ _ _ => (pe_cmpR (op_in_seqK (K := K) rfl) (pv 1) (pe_slice (sl_tupK (K := K) rfl) (pv 4) po_none (po_some pe_int)) (by rfl)))) pa_nil))))))), ?_⟩
    refine ⟨_, rfl, p, dx, _, rfl, h1, wf_no (by decide +kernel), p, m, rfl, W, fun ws l rw1 nl => ⟨l, rfl, ⟨_, .inl (.inl upd_same)⟩, fun D nD => ?_⟩⟩
    have s0 := same_upd (o := .lst ws) nl
    refine lc_pure m.wd (walk_listN (by rw [rw1.len, List.length_map])) (fun x => some x.bg) (SV V.str) (fun _ h => h) nD (by omega) (fun H1 s1 => .inl (.inl (s1 _ _ upd_same))) ?_ ?_
    · rintro i x v H1 H1' ex s1 ⟨rfl, hv⟩ Good Bad kt kf
      obtain ⟨t, rfl, ht⟩ := rows_at rw1 hv ex
      exact ⟨rfl, yes_i (iteT ⟨_, rfl, t, _, 1, _, rfl, rfl, .inl (.inl (s1 _ _ (s0 _ _ ht))), atI_nat (j := 1) rfl, kt _ _ _ rfl (Same.refl _) rfl⟩)⟩
    · intro H2 acc s2 d2 p2
      have ea := paired_enc p2
      rw [fm_map] at ea
      subst ea
      have sA := s0.trans s2
      refine ⟨_, rfl, _, rfl, D, _, rfl, .inl (.inl (.inl d2)), rfl, flat_strs _, _, rfl, ?_⟩
      show if inV (.str z) ((m.wd.map (·.bg)).map V.str) = true then _ else _
      rw [in_strs]
      unfold usedB at q
      by_cases hz : z ∈ m.wd.map (·.bg)
      · rw [decide_eq_true hz] at q ⊢
        exact iteT (q H2 sA)
      · rw [decide_eq_false hz] at q ⊢
        refine iteF ?_
        have W2 := W.same sA
        obtain ⟨dx, a, b, c, ws0, bs0, h1, _⟩ := W2.ex
        refine ⟨_, rfl, p, dx, _, rfl, h1, wf_no (by decide +kernel), p, m, rfl, W2, fun bs l rw1 nl => ⟨l, rfl, ⟨_, .inl (.inl upd_same)⟩, fun D nD => ?_⟩⟩
        have s3 := same_upd (o := .lst bs) nl
        refine lc_pure m.bd (walk_listN (by rw [rw1.len, List.length_map])) (fun x => some (decide (z ∈ [x.one, x.oth]))) (SV V.bl) (fun _ h => h) nD (by omega) (fun H1 s1 => .inl (.inl (s1 _ _ upd_same))) ?_ ?_
        · rintro i x v H1 H1' ex s1 ⟨rfl, hv⟩ Good Bad kt kf
          obtain ⟨t, rfl, ht⟩ := rows_at rw1 hv ex
          refine ⟨rfl, yes_i (iteT ⟨_, rfl, _, rfl, 2, rfl, t, _, rfl, .inl (.inl (s1 _ _ (s3 _ _ ht))), (by rintro ⟨_, e⟩; cases e), fun u nu => ⟨u, _, rfl, .inr (.inl (.inl upd_same)), rfl, rfl, ?_⟩⟩)⟩
          refine kt _ _ _ rfl (same_upd nu) ?_
          show V.bl (inV (.str z) ([x.one, x.oth].map V.str)) = _
          rw [in_strs]
        · intro H4 acc s4 d4 p4
          have ea := paired_enc p4
          rw [fm_map] at ea
          subst ea
          refine ⟨D, _, rfl, .inl (.inl d4), ?_⟩
          rw [List.any_map]
          exact q H4 ((sA.trans s3).trans s4)
/-! ### need_point, without, without_tie with what they refuse -/
def sp_woX (K : PySem.W.Frag) : Sp := fun vs H Q E => ∃ (p : Addr) (m : Md) (z : Str), vs = [.ref p, .str z] ∧ WebAt (CW K) H p m ∧ (¬ z ∈ m.pts ∨ z = "start" → Out H E (He.ga K "NoPoint") "NoPoint" "name" (.str z)) ∧
  (z ∈ m.pts → ¬ z = "start" → usedB m z = true → Out H E (He.ga K "Used") "Used" "name" (.str z)) ∧
  (z ∈ m.pts → ¬ z = "start" → usedB m z = false → ∀ (q : Addr) (H' : Hp), Same H H' → H q = none → WebAt (CW K) H' q (m.drp z) → Q (.ref q) H')
theorem metx_Web_without (T : Tp K mg) : MetX P w K mg base 6 (CW K) "without" (sp_woX K) := by
  obtain ⟨fd, F⟩ := f_Web_without T
  refine metx_of F (cl_Web T) (me_Web_without T) (b_Web_without F) sc_Web_without (fun vs H Q E h => ?_) (fun cdv A outer s H vs Q E hr h tk => ?_)
  · obtain ⟨p, m, z, rfl, _⟩ := h
    rfl
  · obtain ⟨p, m, z, rfl, W, o1, o2, q⟩ := h
    refine ⟨_, (pss_cons (ps_expr (pe_cx (calx_need_point T) tk (fun _ _ _ _ h => h) hr (by decide) rfl (pa_cons (pv 0) (pa_cons (pv 1) pa_nil))))
      (pss_cons (ps_if (pt_cmpR op_eq (pv 1) (C8.pe_gc (by rfl) (c_START T)) (nomark _)) (pss_one (ps_raise rfl tk (pmk_b (mkx_NoPoint T) hr (by decide) rfl (pa_cons (pv 1) pa_nil)))) pss_nil)
      (pss_cons (ps_if (pt_val (C8.pe_c (cal_is_used T) hr (by decide) rfl (pa_cons (pv 0) (pa_cons (pv 1) pa_nil)))) (pss_one (ps_raise rfl tk (pmk_b (mkx_Used T) hr (by decide) rfl (pa_cons (pv 1) pa_nil)))) pss_nil)
      (pss_cons (ps_setLc (i := 2) (own := [("moment", 4)]) (g := gName 4) rfl sc_Web_without.nd rfl rfl (sw_true rfl rfl rfl (by decide +kernel)) (pi_tup (pe_fld (pv 0) rfl)) (blkOk_by (N := N_Web_without) (sc := defScope s_Web_without) (by decide +kernel)) (fun _ _ _ _ _ => (pg_name (i := 4) sc_Web_without.nd rfl (.inl rfl))) (fun _ _ _ _ _ => (pts_one (pt_cmpR op_ne (pv 4) (pv 1) (nomark _)))) (fun _ _ _ _ _ => (pv 4)))
      (pss_cons (ps_setLc (i := 3) (own := [("span", 5)]) (g := gName 5) rfl sc_Web_without.nd rfl rfl (sw_true rfl rfl rfl (by decide +kernel)) (pi_tup (pe_fld (pv 0) rfl)) (blkOk_by (N := N_Web_without) (sc := defScope s_Web_without) (by decide +kernel)) (fun _ _ _ _ _ => (pg_name (i := 5) sc_Web_without.nd rfl (.inl rfl))) (fun _ _ _ _ _ => (pts_one (pt_cmpR op_ne (pe_ix (ix_tupK (K := K) rfl) (pv 5) pe_int (fun _ _ => rfl)) (pv 1) (nomark _)))) (fun _ _ _ _ _ => (pv 5)))
      (pss_one (ps_ret (C8.pe_c (cal_wovenL T) hr (by decide) rfl (pa_cons (pe_fld (pv 0) rfl) (pa_cons (pv 2) (pa_cons (pv 3) (pa_cons (pe_fld (pv 0) rfl) pa_nil)))))))))))), ?_⟩
    refine ⟨_, rfl, _, rfl, p, m, z, rfl, W, fun hz => o1 (.inl hz), fun hz H1 s1 => ?_⟩
    refine ⟨_, rfl, rfl, _, rfl, ?_⟩
    by_cases hs : z = "start"
    · rw [decide_eq_true (show V.str z = V.str "start" by rw [hs])]
      exact iteT ⟨_, rfl, mk_out ((o1 (.inr hs)).same s1)⟩
    · rw [decide_eq_false (show ¬ V.str z = V.str "start" from fun e => hs (V.str.inj e))]
      refine iteF ⟨_, rfl, _, rfl, p, m, z, rfl, W.same s1, fun H2 s2 => ⟨_, rfl, ?_⟩⟩
      cases hu : usedB m z with
      | true => exact iteT ⟨_, rfl, mk_out ((o2 hz hs hu).same (s1.trans s2))⟩
      | false =>
        have q := q hz hs hu
        refine iteF ?_
        have W2 := (W.same s1).same s2
        have hlen := W2.len
        obtain ⟨dx, a, b, c, ws, bs, h1, h2, h3, h4, h5, h6⟩ := W2.ex
        refine ⟨_, rfl, p, CW K, dx, _, _, rfl, h1, cl_Web T, na_moment_rows T, wf_m, a, rfl, ⟨_, .inl (.inl h2)⟩, fun D nD => ?_⟩
        refine lc_pure m.own (walk_tupN (xs := m.own.map V.str) (by rw [List.length_map])) (fun x => if (!decide (x = z)) = true then some x else none) (SV V.str) (fun _ h => h) nD (by omega) (fun H1 s1 => .inl (.inl (s1 _ _ h2))) ?_ ?_
        · rintro i x v H3 H3' ex s3 ⟨rfl, hv⟩ Good Bad kt kf
          rw [List.getElem?_map, ex] at hv
          cases hv
          refine ⟨rfl, _, rfl, _, rfl, rfl, _, rfl, ?_⟩
          have ed : decide (V.str x = V.str z) = decide (x = z) := by simp
          rw [ed]
          cases e : !decide (x = z) with
          | true => exact iteT ⟨_, rfl, kt _ _ _ (by rw [if_pos e]) (Same.refl _) rfl⟩
          | false => exact iteF (kf (by rw [if_neg (by rw [e]; simp)]) _ (Same.refl _))
        · intro H3 acc s3 d3 p3
          have ea := paired_enc p3
          rw [fm_filter] at ea
          subst ea
          have h1' := s3 _ _ h1
          refine ⟨_, rfl, p, CW K, dx, _, _, rfl, h1', cl_Web T, na_span_rows T, wf_s, b, rfl, ⟨_, .inl (.inl (s3 _ _ h3))⟩, fun L nL => ?_⟩
          refine lc_pure m.wd (walk_tupN (xs := ws) (by rw [h4.len, List.length_map])) (fun x => if (!decide (x.en = z)) = true then some x else none) (SR Wd.row) sr_k nL (by omega) (fun H1 s1 => .inl (.inl (s1 _ _ (s3 _ _ h3)))) ?_ ?_
          · rintro i x v H4 H4' ex s4 ⟨rfl, hv⟩ Good Bad kt kf
            obtain ⟨t, rfl, ht⟩ := rows_at h4 hv ex
            have ht' := s4 _ _ (s3 _ _ ht)
            refine ⟨rfl, _, rfl, t, _, 0, _, rfl, rfl, .inl (.inl ht'), atI_nat (j := 0) rfl, _, rfl, rfl, _, rfl, ?_⟩
            have ed : decide (V.str x.en = V.str z) = decide (x.en = z) := by simp
            rw [ed]
            cases e : !decide (x.en = z) with
            | true => exact iteT ⟨_, rfl, kt _ _ _ (by rw [if_pos e]) (Same.refl _) ⟨t, rfl, ht'⟩⟩
            | false => exact iteF (kf (by rw [if_neg (by rw [e]; simp)]) _ (Same.refl _))
          · intro H4 acc s4 d4 p4
            rw [fm_filter] at p4
            have r4 := paired_rows p4
            have sB := s3.trans s4
            have h1' := sB _ _ h1
            refine ⟨_, rfl, p, CW K, dx, _, _, rfl, h1', cl_Web T, na_by T, wf_by, _, rfl, _, rfl, _, rfl, p, CW K, dx, _, _, rfl, h1', cl_Web T, na_tie_rows T, wf_t, ?_⟩
            have l1 : (m.drp z).own.length ≤ m.own.length := List.length_filter_le _ _
            have l2 : (m.drp z).wd.length ≤ m.wd.length := List.length_filter_le _ _
            refine ⟨m.drp z, D, L, c, acc, bs, rfl, s4 _ _ d3, d4, r4, sB _ _ h5, h6.keep (Kt.of sB), ⟨by omega, by omega, hlen.2.2⟩, W.last, fun y H5 s5 ny W5 => ?_⟩
            have sC := (s1.trans s2).trans sB
            exact q y H5 (sC.trans s5) (sC.free ny) W5
def sp_wtX (K : PySem.W.Frag) : Sp := fun vs H Q E => ∃ (p : Addr) (m : Md) (v : V), vs = [.ref p, v] ∧ WebAt (CW K) H p m ∧ (plK v).isSome = true ∧ (whB 0 ((m.bd.length : Int) - 1) v = false → Out H E (He.ga K "NoTie") "NoTie" "at" v) ∧
  (∀ i : Nat, v = .int i → i < m.bd.length → ∀ (q : Addr) (H' : Hp), Same H H' → H q = none → WebAt (CW K) H' q (m.unt i) → Q (.ref q) H')
theorem metx_Web_without_tie (T : Tp K mg) : MetX P w K mg base 6 (CW K) "without_tie" (sp_wtX K) := by
  obtain ⟨fd, F⟩ := f_Web_without_tie T
  refine metx_of F (cl_Web T) (me_Web_without_tie T) (b_Web_without_tie F) sc_Web_without_tie (fun vs H Q E h => ?_) (fun cdv A outer s H vs Q E hr h tk => ?_)
  · obtain ⟨p, m, v, rfl, _⟩ := h
    rfl
  · obtain ⟨p, m, v, rfl, W, hv, o, q⟩ := h
    have hlen := W.len
    obtain ⟨dx, a, b, c, ws, bs, h1, h2, h3, h4, h5, h6⟩ := W.ex
    have hb : bs.length = m.bd.length := by rw [h6.len, List.length_map]
    refine ⟨_, (pss_cons (ps_if (pt_not (pt_val (C8.pe_c (cal_iswh T) hr (by decide) rfl (pa_cons (pv 1) (pa_cons pe_int (pa_cons (pe_op op_sub (pe_callB call_len_seq (by rfl) (z_len T) bb_len (pa_cons (pe_fld (pv 0) rfl) pa_nil)) pe_int) pa_nil)))))) (pss_one (ps_raise rfl tk (pmk_b (mkx_NoTie T) hr (by decide) rfl (pa_cons (pv 1) pa_nil)))) pss_nil)
      (pss_cons (ps_set (i := 2) sc_Web_without_tie.nd rfl (.inl rfl) (pe_op op_catU (pe_slice sl_tupU (pe_fld (pv 0) rfl) po_none (po_some (pv 1))) (pe_slice sl_tupU (pe_fld (pv 0) rfl) (po_some (pe_op op_add (pv 1) pe_int)) po_none)))
      (pss_one (ps_ret (C8.pe_c (cal_woven T) hr (by decide) rfl (pa_cons (pe_fld (pv 0) rfl) (pa_cons (pe_fld (pv 0) rfl) (pa_cons (pe_fld (pv 0) rfl) (pa_cons (pv 2) pa_nil))))))))), ?_⟩
    refine ⟨_, rfl, _, rfl, p, CW K, dx, _, _, rfl, h1, cl_Web T, na_tie_rows T, wf_t, c, _, rfl, .inr (.inl (.inl h5)), _, 1, rfl, rfl, v, 0, _, rfl, hv, _, rfl, ?_⟩
    rw [hb]
    cases hw : whB 0 ((m.bd.length : Int) - 1) v with
    | false => exact iteT ⟨_, rfl, mk_out (o hw)⟩
    | true =>
      obtain ⟨i, rfl, hi⟩ : ∃ i : Nat, v = .int i ∧ i < m.bd.length := by
        cases v with
        | int j =>
          have hj := of_decide_eq_true (show decide (0 ≤ j ∧ j ≤ (m.bd.length : Int) - 1) = true from hw)
          exact ⟨j.toNat, by rw [Int.toNat_of_nonneg hj.1], by omega⟩
        | non => cases hw
        | bl b => cases hw
        | str z => cases hw
        | byt b => cases hw
        | flt b => cases hw
        | ref b => cases hw
        | ty b => cases hw
      refine iteF ?_
      refine ⟨_, rfl, p, CW K, dx, _, _, rfl, h1, cl_Web T, na_tie_rows T, wf_t, _, rfl, i, rfl, c, bs, rfl, h5, fun t1 H1 s1 e1 => ?_⟩
      have h1' := s1 _ _ h1
      refine ⟨_, rfl, p, CW K, dx, _, _, rfl, h1', cl_Web T, na_tie_rows T, wf_t, _, rfl, _, _, rfl, rfl, _, rfl, c, bs, rfl, s1 _ _ h5, fun t2 H2 s2 e2 => ?_⟩
      have ct := cut_erase (xs := bs) (i := i) (by omega)
      refine ⟨t1, t2, _, _, rfl, rfl, s2 _ _ e1, e2, ?_, fun u H3 s3 eu => ?_⟩
      · rw [← List.length_append, ct, List.length_eraseIdx]
        split
        · exact Nat.le_of_lt (small1000 (by omega))
        · exact Nat.le_of_lt (small1000 (by omega))
      · rw [ct] at eu
        have sA := (s1.trans s2).trans s3
        have h1'' := sA _ _ h1
        refine ⟨_, rfl, p, CW K, dx, _, _, rfl, h1'', cl_Web T, na_by T, wf_by, _, rfl, p, CW K, dx, _, _, rfl, h1'', cl_Web T, na_moment_rows T, wf_m, _, rfl, p, CW K, dx, _, _, rfl, h1'', cl_Web T, na_span_rows T, wf_s, _, rfl, ?_⟩
        have r' : Rows H3 (bs.eraseIdx i) ((m.unt i).bd.map Bd.row) := by
          show Rows _ _ ((m.bd.eraseIdx i).map Bd.row)
          rw [erase_mapX]
          exact (h6.keep (Kt.of sA)).erase i
        refine ⟨m.unt i, a, b, u, ws, _, rfl, sA _ _ h2, sA _ _ h3, h4.keep (Kt.of sA), eu, r', ⟨hlen.1, hlen.2.1, ?_⟩, W.last, fun y H5 s5 ny W5 => q i rfl hi y H5 (sA.trans s5) (sA.free ny) W5⟩
        show (m.bd.eraseIdx i).length ≤ 40
        rw [List.length_eraseIdx]
        split <;> omega
theorem met_Web_without (T : Tp K mg) : Met P w K mg base 6 (CW K) "without" (fun vs H Q _ => sp_woX K vs H Q E0) := (metx_Web_without T).calm
theorem met_Web_without_tie (T : Tp K mg) : Met P w K mg base 6 (CW K) "without_tie" (fun vs H Q _ => sp_wtX K vs H Q E0) := (metx_Web_without_tie T).calm
end
end Tw

set_option maxHeartbeats 4000000
namespace Tw
open PySem PySem.Spec PyProof.Rows L2
/-! web.py: webs compared; another last tick, good or bad -/
/-- a value of a web's rows -/
def rowV : V → Bool
  | .non => true
  | .int _ => true
  | .str z => PyData.canLay0 (.str z)
  | _ => false
theorem rowV_ok : ∀ {v : V}, rowV v = true → okV v = true
  | .non, _ => rfl
  | .int _, _ => rfl
  | .str _, h => h
theorem all_ok : ∀ {r : List V}, r.all rowV = true → r.all okV = true
  | [], _ => rfl
  | v :: r, h => by
    rw [List.all_cons, Bool.and_eq_true] at h ⊢
    exact ⟨rowV_ok h.1, all_ok h.2⟩
theorem eqv_rowV : ∀ {v u : V}, rowV v = true → rowV u = true → (PyData.eqv (pd v) (pd u) = true ↔ v = u)
  | .non, .non, _, _ => ⟨fun _ => rfl, fun _ => rfl⟩
  | .non, .int _, _, _ => ⟨(fun h => nomatch h), (fun h => nomatch h)⟩
  | .non, .str _, _, _ => ⟨(fun h => nomatch h), (fun h => nomatch h)⟩
  | .int _, .non, _, _ => ⟨(fun h => nomatch h), (fun h => nomatch h)⟩
  | .int i, .int j, _, _ => ⟨fun h => congrArg V.int (eq_of_beq h), fun h => beq_iff_eq.2 (V.int.inj h)⟩
  | .int _, .str _, _, _ => ⟨(fun h => nomatch h), (fun h => nomatch h)⟩
  | .str _, .non, _, _ => ⟨(fun h => nomatch h), (fun h => nomatch h)⟩
  | .str _, .int _, _, _ => ⟨(fun h => nomatch h), (fun h => nomatch h)⟩
  | .str i, .str j, _, _ => ⟨fun h => congrArg V.str (eq_of_beq h), fun h => beq_iff_eq.2 (V.str.inj h)⟩
theorem eqv_rowVs : ∀ {r q : List V}, r.all rowV = true → q.all rowV = true → (PyData.eqvAll (r.map pd) (q.map pd) = true ↔ r = q)
  | [], [], _, _ => ⟨fun _ => rfl, fun _ => rfl⟩
  | [], _ :: _, _, _ => ⟨(fun h => nomatch h), (fun h => nomatch h)⟩
  | _ :: _, [], _, _ => ⟨(fun h => nomatch h), (fun h => nomatch h)⟩
  | v :: r, u :: q, h, g => by
    rw [List.all_cons, Bool.and_eq_true] at h g
    show ((PyData.eqv (pd v) (pd u) && PyData.eqvAll (r.map pd) (q.map pd)) = true) ↔ _
    rw [Bool.and_eq_true, eqv_rowV h.1 g.1, eqv_rowVs h.2 g.2, List.cons.injEq]
theorem eqv_rowRs : ∀ {r q : List (List V)}, (∀ x ∈ r, x.all rowV = true) → (∀ x ∈ q, x.all rowV = true) → (PyData.eqvAll (r.map pdR) (q.map pdR) = true ↔ r = q)
  | [], [], _, _ => ⟨fun _ => rfl, fun _ => rfl⟩
  | [], _ :: _, _, _ => ⟨(fun h => nomatch h), (fun h => nomatch h)⟩
  | _ :: _, [], _, _ => ⟨(fun h => nomatch h), (fun h => nomatch h)⟩
  | v :: r, u :: q, h, g => by
    show ((PyData.eqvAll (v.map pd) (u.map pd) && PyData.eqvAll (r.map pdR) (q.map pdR)) = true) ↔ _
    rw [Bool.and_eq_true, eqv_rowVs (h v List.mem_cons_self) (g u List.mem_cons_self), eqv_rowRs (fun x hx => h x (List.mem_cons_of_mem _ hx)) (fun x hx => g x (List.mem_cons_of_mem _ hx)), List.cons.injEq]
theorem shaped_tup {rs : List (List V)} (h : ∀ r ∈ rs, r.all okV = true) : SeqAt.shaped (.tuple (rs.map pdR)) = true := by
  unfold SeqAt.shaped
  rw [Bool.and_eq_true]
  refine ⟨can_rows h, decide_eq_true ?_⟩
  show PyData.depthAll (rs.map pdR) + 1 ≤ 64
  have := depth_rows rs
  omega
theorem shaped_tup1 {r : List V} (h : r.all okV = true) : SeqAt.shaped (.tuple (r.map pd)) = true := by
  unfold SeqAt.shaped
  rw [Bool.and_eq_true]
  refine ⟨can_all h, decide_eq_true ?_⟩
  show PyData.depthAll (r.map pd) + 1 ≤ 64
  rw [depth_all]
  decide
/-- a web whose names can be laid -/
structure Laid (m : Md) : Prop where
  own : (m.own.map V.str).all rowV = true
  wd : ∀ r ∈ m.wd.map Wd.row, r.all rowV = true
  bd : ∀ r ∈ m.bd.map Bd.row, r.all rowV = true
theorem oV_injW {a b : Option Int} (h : oV a = oV b) : a = b := by
  cases a <;> cases b
  · rfl
  · cases h
  · cases h
  · cases h
    rfl
theorem wrow_inj {x y : Wd} (h : Wd.row x = Wd.row y) : x = y := by
  cases x; cases y
  unfold Wd.row at h
  simp only [List.cons.injEq, V.str.injEq, V.int.injEq, and_true] at h
  obtain ⟨rfl, rfl, rfl, rfl, h⟩ := h
  cases oV_injW h
  rfl
theorem brow_inj {x y : Bd} (h : Bd.row x = Bd.row y) : x = y := by
  cases x; cases y
  unfold Bd.row at h
  simp only [List.cons.injEq, V.str.injEq, and_true] at h
  obtain ⟨rfl, rfl, h1, h2⟩ := h
  cases oV_injW h1
  cases oV_injW h2
  rfl
theorem map_inj2 {α β : Type} {f : α → β} (hf : ∀ x y, f x = f y → x = y) : ∀ {l q : List α}, l.map f = q.map f → l = q
  | [], [], _ => rfl
  | [], _ :: _, h => nomatch h
  | _ :: _, [], h => nomatch h
  | a :: l, b :: q, h => by
    rw [List.map_cons, List.map_cons, List.cons.injEq] at h
    rw [hf _ _ h.1, map_inj2 hf h.2]
theorem md_eq {m n : Md} : m = n ↔ m.last = n.last ∧ m.own.map V.str = n.own.map V.str ∧ m.wd.map Wd.row = n.wd.map Wd.row ∧ m.bd.map Bd.row = n.bd.map Bd.row := by
  constructor
  · rintro rfl
    exact ⟨rfl, rfl, rfl, rfl⟩
  · rintro ⟨h1, h2, h3, h4⟩
    cases m; cases n
    dsimp only at h1 h2 h3 h4
    rw [h1, map_inj2 (fun _ _ e => V.str.inj e) h2, map_inj2 (fun _ _ => wrow_inj) h3, map_inj2 (fun _ _ => brow_inj) h4]
theorem eq_tup1 {K : PySem.W.Frag} {H : Hp} {a b : Addr} {r q : List V} {Q : VK} (ha : H a = some (.tup r)) (hb : H b = some (.tup q)) (hr : r.all rowV = true) (hq : q.all rowV = true) (yes : r = q → Q (.bl true) H) (no : r ≠ q → Q (.bl false) H) : rEqD K (.ref a) (.ref b) H Q := by
  refine ⟨.tuple (r.map pd), .tuple (q.map pd), .tup (.inl (.inl ha)) (dp_all (all_ok hr)), .tup (.inl (.inl hb)) (dp_all (all_ok hq)), shaped_tup1 (all_ok hr), shaped_tup1 (all_ok hq), ?_⟩
  have e := eqv_rowVs hr hq
  show Q (.bl (PyData.eqvAll (r.map pd) (q.map pd))) H
  cases hc : PyData.eqvAll (r.map pd) (q.map pd) with
  | true => exact yes (e.1 hc)
  | false => exact no fun z => by rw [e.2 z] at hc; cases hc
theorem eq_tupR {K : PySem.W.Frag} {H : Hp} {a b : Addr} {xs ys : List V} {r q : List (List V)} {Q : VK} (ha : H a = some (.tup xs)) (hb : H b = some (.tup ys)) (ra : Rows H xs r) (rb : Rows H ys q) (hr : ∀ x ∈ r, x.all rowV = true) (hq : ∀ x ∈ q, x.all rowV = true) (yes : r = q → Q (.bl true) H) (no : r ≠ q → Q (.bl false) H) : rEqD K (.ref a) (.ref b) H Q := by
  have h1 : ∀ x ∈ r, x.all okV = true := fun x hx => all_ok (hr x hx)
  have h2 : ∀ x ∈ q, x.all okV = true := fun x hx => all_ok (hq x hx)
  refine ⟨.tuple (r.map pdR), .tuple (q.map pdR), .tup (.inl (.inl ha)) (dp_rows ra h1), .tup (.inl (.inl hb)) (dp_rows rb h2), shaped_tup h1, shaped_tup h2, ?_⟩
  have e := eqv_rowRs hr hq
  show Q (.bl (PyData.eqvAll (r.map pdR) (q.map pdR))) H
  cases hc : PyData.eqvAll (r.map pdR) (q.map pdR) with
  | true => exact yes (e.1 hc)
  | false => exact no fun z => by rw [e.2 z] at hc; cases hc
section
variable {P : Program} {w : World} {K : PySem.W.Frag} {mg : Str → Option Value} {base : Heap}
/-! ### == -/
def sp_weq (K : PySem.W.Frag) : Sp := fun vs H Q _ => ∃ (p q : Addr) (m n : Md), vs = [.ref p, .ref q] ∧ WebAt (CW K) H p m ∧ WebAt (CW K) H q n ∧ Laid m ∧ Laid n ∧ (m = n → Q (.bl true) H) ∧ (m ≠ n → Q (.bl false) H)
theorem met_Web_UeqU (T : Tp K mg) : Met P w K mg base 2 (CW K) "__eq__" (sp_weq K) := by
  obtain ⟨fd, F⟩ := f_Web_UeqU T
  refine met_of F (cl_Web T) (me_Web_UeqU T) (b_Web_UeqU F) sc_Web_UeqU (fun vs H Q E h => ?_) (fun cdv A outer s H vs Q E hr h => ?_)
  · obtain ⟨p, q, m, n, rfl, _⟩ := h
    rfl
  · obtain ⟨p, q, m, n, rfl, W, V', lm, ln, yes, no⟩ := h
    have hu64 := hr.units
    obtain ⟨dx, a, b, c, ws, bs, h1, h2, h3, h4, h5, h6⟩ := W.ex
    obtain ⟨dy, a', b', c', ws', bs', g1, g2, g3, g4, g5, g6⟩ := V'.ex
    rw [md_eq] at yes
    rw [Ne, md_eq] at no
    refine ⟨_, (pss_one (ps_ret (pe_and (pe_callB call_isi (by rfl) (z_isinstance T) bb_isinstance (pa_cons (pv 1) (pa_cons (pe_glob (v := .ref (He.ga K "Web")) (by rfl) (g_Web T) rfl) pa_nil))) (pe_and (pe_cmpR op_eq (pe_fld (pv 0) rfl) (pe_fld (pv 1) rfl) (nomark _)) (pe_and (pe_cmpR (op_eqD hu64) (pe_fld (pv 0) rfl) (pe_fld (pv 1) rfl) (nomark _)) (pe_and (pe_cmpR (op_eqD hu64) (pe_fld (pv 0) rfl) (pe_fld (pv 1) rfl) (nomark _)) (pe_one (pe_cmpR (op_eqD hu64) (pe_fld (pv 0) rfl) (pe_fld (pv 1) rfl) (nomark _))))))))), ?_⟩
    refine ⟨_, rfl, .ref q, .ref (He.ga K "Web"), .ref (He.ga K "Web"), .ref (He.ga K "Web"), true, rfl, .own _, .base (.ins g1 (cl_Web T) (ti0_Web T) (ti1_Web T) (ti2_Web T) (ti3_Web T)), ?_, ?_⟩
    · unfold PySem.W.kitOne
      rw [if_pos (by simp)]
    refine ⟨_, rfl, iteT ?_⟩
    refine ⟨_, rfl, p, CW K, dx, _, _, rfl, h1, cl_Web T, na_by T, wf_by, _, rfl, q, CW K, dy, _, _, rfl, g1, cl_Web T, na_by T, wf_by, rfl, ?_⟩
    by_cases e0 : m.last = n.last
    · rw [decide_eq_true (congrArg V.int e0)]
      refine ⟨_, rfl, iteT ?_⟩
      refine ⟨_, rfl, p, CW K, dx, _, _, rfl, h1, cl_Web T, na_moment_rows T, wf_m, _, rfl, q, CW K, dy, _, _, rfl, g1, cl_Web T, na_moment_rows T, wf_m, eq_tup1 h2 g2 lm.own ln.own (fun e1 => ⟨_, rfl, iteT ?_⟩) (fun n => ⟨_, rfl, iteF (no fun h => n h.2.1)⟩)⟩
      refine ⟨_, rfl, p, CW K, dx, _, _, rfl, h1, cl_Web T, na_span_rows T, wf_s, _, rfl, q, CW K, dy, _, _, rfl, g1, cl_Web T, na_span_rows T, wf_s, eq_tupR h3 g3 h4 g4 lm.wd ln.wd (fun e2 => ⟨_, rfl, iteT ?_⟩) (fun n => ⟨_, rfl, iteF (no fun h => n h.2.2.1)⟩)⟩
      exact ⟨_, rfl, p, CW K, dx, _, _, rfl, h1, cl_Web T, na_tie_rows T, wf_t, _, rfl, q, CW K, dy, _, _, rfl, g1, cl_Web T, na_tie_rows T, wf_t, eq_tupR h5 g5 h6 g6 lm.bd ln.bd (fun e3 => yes ⟨e0, e1, e2, e3⟩) (fun n => no fun h => n h.2.2.2)⟩
    · rw [decide_eq_false (fun e => e0 (V.int.inj e))]
      exact ⟨_, rfl, iteF (no fun h => e0 h.1)⟩
/-- a web is no list and no text -/
def sp_weqN (K : PySem.W.Frag) : Sp := fun vs H Q _ => ∃ (p : Addr) (m : Md) (v : V), vs = [.ref p, v] ∧ WebAt (CW K) H p m ∧ ((∃ z, v = .str z) ∨ ∃ l xs, v = .ref l ∧ H l = some (.lst xs)) ∧ Q (.bl false) H
theorem met_Web_UeqU_no (T : Tp K mg) : Met P w K mg base 2 (CW K) "__eq__" (sp_weqN K) := by
  obtain ⟨fd, F⟩ := f_Web_UeqU T
  refine met_of F (cl_Web T) (me_Web_UeqU T) (b_Web_UeqU F) sc_Web_UeqU (fun vs H Q E h => ?_) (fun cdv A outer s H vs Q E hr h => ?_)
  · obtain ⟨p, m, v, rfl, _⟩ := h
    rfl
  · obtain ⟨p, m, v, rfl, W, hv, no⟩ := h
    have hu64 := hr.units
    refine ⟨_, (pss_one (ps_ret (pe_and (pe_callB call_isi (by rfl) (z_isinstance T) bb_isinstance (pa_cons (pv 1) (pa_cons (pe_glob (v := .ref (He.ga K "Web")) (by rfl) (g_Web T) rfl) pa_nil))) (pe_and (pe_cmpR op_eq (pe_fld (pv 0) rfl) (pe_fld (pv 1) rfl) (nomark _)) (pe_and (pe_cmpR (op_eqD hu64) (pe_fld (pv 0) rfl) (pe_fld (pv 1) rfl) (nomark _)) (pe_and (pe_cmpR (op_eqD hu64) (pe_fld (pv 0) rfl) (pe_fld (pv 1) rfl) (nomark _)) (pe_one (pe_cmpR (op_eqD hu64) (pe_fld (pv 0) rfl) (pe_fld (pv 1) rfl) (nomark _))))))))), ?_⟩
    rcases hv with ⟨z, rfl⟩ | ⟨l, xs, rfl, hl⟩
    · exact ⟨_, rfl, .str z, .ref (He.ga K "Web"), .type "str", .ref (He.ga K "Web"), false, rfl, .own _, .base (.str z), kz_Web T, _, rfl, iteF no⟩
    · exact ⟨_, rfl, .ref l, .ref (He.ga K "Web"), .type "list", .ref (He.ga K "Web"), false, rfl, .own _, .base (.lst hl), kl_Web T, _, rfl, iteF no⟩
/-! ### another last tick -/
def Md.wby (m : Md) (l : Int) : Md := { m with last := l }
def sp_wby (K : PySem.W.Frag) : Sp := fun vs H Q _ => ∃ (p : Addr) (m : Md) (l : Int), vs = [.ref p, .int l] ∧ WebAt (CW K) H p m ∧ 1 ≤ l ∧ l ≤ 1000 ∧ ∀ (q : Addr) (H' : Hp), Same H H' → H q = none → WebAt (CW K) H' q (m.wby l) → Q (.ref q) H'
theorem met_Web_with_by (T : Tp K mg) : Met P w K mg base 6 (CW K) "with_by" (sp_wby K) := by
  obtain ⟨fd, F⟩ := f_Web_with_by T
  refine met_of F (cl_Web T) (me_Web_with_by T) (b_Web_with_by F) sc_Web_with_by (fun vs H Q E h => ?_) (fun cdv A outer s H vs Q E hr h => ?_)
  · obtain ⟨p, m, l, rfl, _⟩ := h
    rfl
  · obtain ⟨p, m, l, rfl, W, l1, l2, q⟩ := h
    obtain ⟨dx, a, b, c, ws, bs, h1, h2, h3, h4, h5, h6⟩ := W.ex
    refine ⟨_, (pss_one (ps_ret (C8.pe_c (cal_woven T) hr (by decide) rfl (pa_cons (pv 1) (pa_cons (pe_fld (pv 0) rfl) (pa_cons (pe_fld (pv 0) rfl) (pa_cons (pe_fld (pv 0) rfl) pa_nil))))))), ?_⟩
    refine ⟨_, rfl, _, rfl, p, CW K, dx, _, _, rfl, h1, cl_Web T, na_moment_rows T, wf_m, _, rfl, p, CW K, dx, _, _, rfl, h1, cl_Web T, na_span_rows T, wf_s, _, rfl, p, CW K, dx, _, _, rfl, h1, cl_Web T, na_tie_rows T, wf_t, ?_⟩
    exact ⟨m.wby l, a, b, c, ws, bs, rfl, h2, h3, h4, h5, h6, W.len, ⟨l1, l2⟩, q⟩
/-! ### a last tick that is none -/
def sp_iniX (K : PySem.W.Frag) : Sp := fun vs H Q E => ∃ (p : Addr) (v : V), vs = [.ref p, v] ∧ (plK v).isSome = true ∧ whB 1 1000 v = false ∧ Out H E (He.ga K "BadBy") "BadBy" "by" v
theorem fn_iniX (T : Tp K mg) {fd : FuncData} (F : FunD K "__init__" "Web.__init__" (defArgs s_Web_UinitU) (defBody s_Web_UinitU) (defScope s_Web_UinitU) [(V.int 100 : V)] [] (He.ma K (He.ga K "Web") "__init__") fd) :
    FnOk P w K mg base (L2.CX P w) 5 (He.ma K (He.ga K "Web") "__init__") fd ["self", "by"] (sp_iniX K) := by
  refine fnx_of F sc_Web_UinitU (fun vs H Q E h => ?_) (fun cdv A outer s H vs Q E hr h tk => ?_)
  · obtain ⟨p, v, rfl, _⟩ := h
    rfl
  · obtain ⟨p, v, rfl, hpl, wb, o⟩ := h
    refine ⟨_, (pss_cons (ps_if (pt_not (pt_val (C8.pe_c (cal_iswh T) hr (by decide) rfl (pa_cons (pv 1) (pa_cons pe_int (pa_cons (C8.pe_gc (by rfl) (c_MOST_BY T)) pa_nil)))))) (pss_one (ps_raise rfl tk (pmk_b (mkx_BadBy T) hr (by decide) rfl (pa_cons (pv 1) pa_nil)))) pss_nil)
      (pss_cons (ps_fld (pv 0) (pv 1) rfl)
      (pss_cons (ps_fld (pv 0) (pe_tup pa_nil) rfl)
      (pss_cons (ps_fld (pv 0) (pe_tup pa_nil) rfl)
      (pss_one (ps_fld (pv 0) (pe_tup pa_nil) rfl)))))), ?_⟩
    refine ⟨_, rfl, v, 1, 1000, rfl, hpl, _, rfl, ?_⟩
    rw [wb]
    exact iteT ⟨_, rfl, mk_out o⟩
structure MakX (P : Program) (w : World) (K : PySem.W.Frag) (mg : Str → Option Value) (base : Heap) (k : Nat) (x : Str) (C : Addr) (sp : Sp) : Prop where
  ex : ∃ (f : Addr) (fd : FuncData) (ps : List Str), Mk K C f ∧ FnOk P w K mg base (L2.CX P w) k f fd ps sp ∧ mg x = some (.ref C) ∧ ∃ ds, Vals [] ds ∧ Binds K fd ps ds
theorem pe_mkx {X : Cx} {k j : Nat} {C : Addr} {x : Str} {sp : Sp} {p pos : Pos} {e : Expr} {es : List Expr} {t : TA} {W : WX} {E : XK} (c : MakX X.prog X.w X.K X.mg X.base k x C sp) (tk : Takes X W) (hW : ∀ cls d σ H, E cls d H → W cls d σ H) (hr : Room j X.A) (hk : k + 1 ≤ j) (hg : Gl X x) (ha : PA X (e :: es) t) (form : Flat X x e es pos := by exact ⟨by decide, rfl, rfl⟩) :
    PE X (.Call (.Name x p) (e :: es) [] pos) (tMake C sp [] E t) :=
  let ⟨_, _, _, made, F, at_, _, d, b⟩ := c.ex
  pe_make made F (hr.mono hk) hg at_ b d (passes_call tk hW) ha form.dbg form.first form.plain
theorem makx_Web (T : Tp K mg) : MakX P w K mg base 5 "Web" (CW K) (sp_iniX K) := by
  obtain ⟨fd, F⟩ := f_Web_UinitU T
  obtain ⟨ds, hv, hb⟩ := F.binds1 (ps := ["self", "by"]) 2 1 (by simp) rfl fun T kV doc pm an cdv ct us its h1 h2 => match us, its, h1, h2 with
    | [_, _], [_], _, _ => ⟨_, rfl, rfl⟩
  exact ⟨_, fd, ["self", "by"], mk_Web T, fn_iniX T F, g_Web T, ds, hv, hb⟩
def sp_wovX (K : PySem.W.Frag) : Sp := fun vs H Q E => ∃ (v a b c : V), vs = [v, a, b, c] ∧ (plK v).isSome = true ∧ whB 1 1000 v = false ∧ Out H E (He.ga K "BadBy") "BadBy" "by" v
theorem calx_woven (T : Tp K mg) : CalX P w K mg base 7 "woven" (sp_wovX K) := by
  obtain ⟨fd, F⟩ := f_woven T
  refine calx_of F (g_woven T) (b_woven F) sc_woven (fun vs H Q E h => ?_) (fun cdv A outer s H vs Q E hr h tk => ?_)
  · obtain ⟨v, a, b, c, rfl, _⟩ := h
    rfl
  · obtain ⟨v, a, b, c, rfl, hpl, wb, o⟩ := h
    refine ⟨_, (pss_cons (ps_set (i := 4) sc_woven.nd rfl (.inl rfl) (pe_mkx (makx_Web T) tk (fun _ _ _ _ h ↦ h) hr (by decide) rfl (pa_cons (pv 0) pa_nil)))
      (pss_cons (ps_fld (pv 4) (pe_callTy call_tuple_of (by rfl) (z_tuple T) bb_tuple (pa_cons (pv 1) pa_nil)) rfl)
      (pss_cons (ps_fld (pv 4) (pe_callTy call_tuple_of (by rfl) (z_tuple T) bb_tuple (pa_cons (pv 2) pa_nil)) rfl)
      (pss_cons (ps_fld (pv 4) (pe_callTy call_tuple_of (by rfl) (z_tuple T) bb_tuple (pa_cons (pv 3) pa_nil)) rfl)
      (pss_one (ps_ret (pv 4))))))), ?_⟩
    exact ⟨_, rfl, fun x dx nx ndx ne => ⟨x, v, rfl, hpl, wb, Out.same o ((same_upd ndx).trans (same_upd (by rw [upd_ne ne.symm]; exact nx)))⟩⟩
def sp_wbyX (K : PySem.W.Frag) : Sp := fun vs H Q E => ∃ (p : Addr) (m : Md) (v : V), vs = [.ref p, v] ∧ WebAt (CW K) H p m ∧ (plK v).isSome = true ∧ whB 1 1000 v = false ∧ Out H E (He.ga K "BadBy") "BadBy" "by" v
theorem metx_Web_with_by (T : Tp K mg) : MetX P w K mg base 8 (CW K) "with_by" (sp_wbyX K) := by
  obtain ⟨fd, F⟩ := f_Web_with_by T
  refine metx_of F (cl_Web T) (me_Web_with_by T) (b_Web_with_by F) sc_Web_with_by (fun vs H Q E h => ?_) (fun cdv A outer s H vs Q E hr h tk => ?_)
  · obtain ⟨p, m, v, rfl, _⟩ := h
    rfl
  · obtain ⟨p, m, v, rfl, W, hpl, wb, o⟩ := h
    obtain ⟨dx, a, b, c, ws, bs, h1, h2, h3, h4, h5, h6⟩ := W.ex
    refine ⟨_, (pss_one (ps_ret (pe_cx (calx_woven T) tk (fun _ _ _ _ h ↦ h) hr (by decide) rfl (pa_cons (pv 1) (pa_cons (pe_fld (pv 0) rfl) (pa_cons (pe_fld (pv 0) rfl) (pa_cons (pe_fld (pv 0) rfl) pa_nil))))))), ?_⟩
    refine ⟨_, rfl, _, rfl, p, CW K, dx, _, _, rfl, h1, cl_Web T, na_moment_rows T, wf_m, _, rfl, p, CW K, dx, _, _, rfl, h1, cl_Web T, na_span_rows T, wf_s, _, rfl, p, CW K, dx, _, _, rfl, h1, cl_Web T, na_tie_rows T, wf_t, ?_⟩
    exact ⟨_, _, _, _, rfl, hpl, wb, o⟩
/-! ### Web(by=..) -/
theorem kb_Web {fd : FuncData} (F : FunD K "__init__" "Web.__init__" (defArgs s_Web_UinitU) (defBody s_Web_UinitU) (defScope s_Web_UinitU) [(V.int 100 : V)] [] (He.ma K (He.ga K "Web") "__init__") fd) :
    ∃ its : List Value, KBn K fd ["self", "by"] 1 [("by" : Str)] (fun us ws => us ++ ws) (fun vs zs => vs ++ zs) :=
  F.kbindsD 1 [("by" : Str)] (fun us _ ws => us ++ ws) (by simp) (fun r1 _ r3 => r1.append r3) fun T kV doc pm an cdv ct us its ws h1 h2 h3 => match us, its, ws, h1, h2, h3 with
    | [_], [_], [_], _, _, _ => ⟨_, rfl, rfl⟩
/-- a class of one value that is made by its name -/
structure MakK (P : Program) (w : World) (K : PySem.W.Frag) (mg : Str → Option Value) (base : Heap) (CX : CXT) (k : Nat) (x kn : Str) (C : Addr) (sp : Sp) : Prop where
  ex : ∃ (f : Addr) (fd : FuncData) (ps : List Str) (g : List Value → List Value → List Value), Mk K C f ∧ FnOk P w K mg base CX k f fd ps sp ∧ mg x = some (.ref C) ∧ KBn K fd ps 1 [kn] g (fun vs zs => vs ++ zs)
theorem makk_Web (T : Tp K mg) : MakK P w K mg base CX0 3 "Web" "by" (CW K) (sp_init K) := by
  obtain ⟨fd, F⟩ := f_Web_UinitU T
  obtain ⟨_, hb⟩ := kb_Web F
  exact ⟨_, fd, _, _, mk_Web T, fn_init T F, g_Web T, hb⟩
theorem makkx_Web (T : Tp K mg) : MakK P w K mg base (L2.CX P w) 5 "Web" "by" (CW K) (sp_iniX K) := by
  obtain ⟨fd, F⟩ := f_Web_UinitU T
  obtain ⟨_, hb⟩ := kb_Web F
  exact ⟨_, fd, _, _, mk_Web T, fn_iniX T F, g_Web T, hb⟩
theorem pe_wk {X : Cx} {j k : Nat} {C : Addr} {sp : Sp} {x kn : Str} {ke : Expr} {te : TE} {p pos kpos : Pos} (c : MakK X.prog X.w X.K X.mg X.base CX0 k x kn C sp) (hr : Room j X.A) (hj : k + 1 ≤ j) (hg : Gl X x) (he : PE X ke te) (hdb : (x == ("__debug__" : Str)) = false := by decide) :
    PE X (.Call (.Name x p) [] [⟨some kn, ke, kpos⟩] pos) (tMakeK C 0 1 sp (fun vs zs => vs ++ zs) E0 tNil (tCons te tNil)) := by
  obtain ⟨_, _, _, _, made, F, at_, hb⟩ := c.ex
  exact pe_makeK0 (ks := [kn]) made F (hr.mono hj) hg at_ hb pass0 (pk_cons he pk_nil) rfl rfl hdb rfl
theorem pe_wkx {X : Cx} {j k : Nat} {C : Addr} {sp : Sp} {x kn : Str} {ke : Expr} {te : TE} {p pos kpos : Pos} {W : WX} {E : XK} (c : MakK X.prog X.w X.K X.mg X.base (L2.CX X.prog X.w) k x kn C sp) (ta : Takes X W) (hW : ∀ cls d σ H, E cls d H → W cls d σ H) (hr : Room j X.A) (hj : k + 1 ≤ j) (hg : Gl X x) (he : PE X ke te) (hdb : (x == ("__debug__" : Str)) = false := by decide) :
    PE X (.Call (.Name x p) [] [⟨some kn, ke, kpos⟩] pos) (tMakeK C 0 1 sp (fun vs zs => vs ++ zs) E tNil (tCons te tNil)) := by
  obtain ⟨_, _, _, _, made, F, at_, hb⟩ := c.ex
  exact pe_makeK0 (ks := [kn]) made F (hr.mono hj) hg at_ hb (passes_call ta hW) (pk_cons he pk_nil) rfl rfl hdb rfl
end
end Tw

set_option maxHeartbeats 4000000
namespace Tw
open PySem PySem.Spec PyProof.Rows L2
/-! ### the law's flow of numbers -/
structure Flow (H : Hp) (f c : Addr) : Prop where
  ex : ∃ (ns : List Int) (i r st : Int), H f = some (.lst [.ref c, .int i, .int r, .int st]) ∧ H c = some (.lst (ns.map V.int)) ∧ 0 ≤ i ∧ 0 ≤ r ∧ 0 ≤ st ∧ st < 2147483647
theorem Flow.lst {H : Hp} {f c : Addr} (h : Flow H f c) : ∃ xs, H f = some (.lst xs) := let ⟨_, _, _, _, e, _⟩ := h.ex; ⟨_, e⟩
theorem Flow.cells {H : Hp} {f c : Addr} (h : Flow H f c) : ∃ xs, H c = some (.lst xs) := let ⟨_, _, _, _, _, e, _⟩ := h.ex; ⟨_, e⟩
theorem Flow.keep {H H' : Hp} {f c : Addr} (h : Flow H f c) (h1 : ∀ o, H f = some o → H' f = some o) (h2 : ∀ o, H c = some o → H' c = some o) : Flow H' f c := by
  obtain ⟨ns, i, r, st, e1, e2, e3⟩ := h.ex
  exact ⟨ns, i, r, st, h1 _ e1, h2 _ e2, e3⟩
theorem Flow.same {H H' : Hp} {f c : Addr} (h : Flow H f c) (s : Same H H') : Flow H' f c := h.keep (fun _ e => s _ _ e) (fun _ e => s _ _ e)
theorem Flow.upd {H : Hp} {f c p : Addr} {o : HO} (h : Flow H f c) (n1 : f ≠ p) (n2 : c ≠ p) : Flow (upd H p o) f c := h.keep (fun _ e => by rw [upd_ne n1]; exact e) (fun _ e => by rw [upd_ne n2]; exact e)
theorem flow_ne {H : Hp} {f c : Addr} {i r st : Int} {ns : List Int} (h1 : H f = some (.lst [.ref c, .int i, .int r, .int st])) (h2 : H c = some (.lst (ns.map V.int))) : c ≠ f := by
  refine ne_of h2 h1 fun e => ?_
  have e := HO.lst.inj e
  cases ns with
  | nil => cases e
  | cons x l =>
    have e1 := (List.cons.inj e).1
    cases e1
theorem Flow.put {H : Hp} {f c : Addr} {i r st : Int} {ns : List Int} (h1 : H f = some (.lst [.ref c, .int i, .int r, .int st])) (h2 : H c = some (.lst (ns.map V.int))) {i' r' st' : Int} (a : 0 ≤ i') (b : 0 ≤ r') (d : 0 ≤ st') (e : st' < 2147483647) :
    Flow (L2.upd H f (.lst [.ref c, .int i', .int r', .int st'])) f c := ⟨ns, i', r', st', upd_same, by rw [upd_ne (flow_ne h1 h2)]; exact h2, a, b, d, e⟩
theorem cut_ints (ns : List Int) (lo hi : Option Int) : ∃ ms : List Int, cutV (ns.map V.int) lo hi = ms.map V.int := by
  unfold cutV
  refine ⟨(ns.drop (HT.sIx (ns.map V.int).length 0 lo)).take (HT.sIx (ns.map V.int).length (ns.map V.int).length hi - HT.sIx (ns.map V.int).length 0 lo), ?_⟩
  rw [List.map_take, List.map_drop]
theorem fm_lo (x : Int) {n : Int} (h : 0 < n) : 0 ≤ x.fmod n := by
  rw [Int.fmod_eq_emod_of_nonneg _ (Int.le_of_lt h)]
  exact Int.emod_nonneg _ (Int.ne_of_gt h)
theorem fm_hi (x : Int) {n : Int} (h : 0 < n) : x.fmod n < n := by
  rw [Int.fmod_eq_emod_of_nonneg _ (Int.le_of_lt h)]
  exact Int.emod_lt_of_pos _ h
theorem fd_lo {x n : Int} (hx : 0 ≤ x) (h : 0 < n) : 0 ≤ x.fdiv n := by
  rw [Int.fdiv_eq_ediv_of_nonneg _ (Int.le_of_lt h)]
  exact Int.ediv_nonneg hx (Int.le_of_lt h)
theorem abs_lo (x : Int) : (0 : Int) ≤ if x < 0 then -x else x := by
  split <;> omega
section
variable {P : Program} {w : World} {K : PySem.W.Frag} {mg : Str → Option Value} {base : Heap}
def CDivX (_ j : Int) : Prop := j ≠ 0 ∧ j.natAbs.log2 < 9000
theorem op_fdivX {X : Cx} : OpR X (binaryOp .FloorDiv) (rI CDivX fun i j => .int (i.fdiv j)) := opI fun _ _ _ _ _ _ _ hc q => floordiv_int hc.1 q (.inl (PyProof.noPylong_of_log2 hc.2))
theorem big_log {n : Int} (h1 : n < 1606938044258990275541962092341162602522202993782792835301376) (h0 : 0 < n) : n.natAbs.log2 < 9000 := by
  have h : n.natAbs < 2 ^ 200 := by
    have e : (2 : Nat) ^ 200 = 1606938044258990275541962092341162602522202993782792835301376 := by decide +kernel
    rw [e]
    omega
  exact Nat.lt_trans ((Nat.log2_lt (by omega)).mpr h) (by decide)
def sp_flow (K : PySem.W.Frag) : Sp := fun vs H Q _ => ∃ (a : Addr) (ns : List Int), vs = [.ref a] ∧ SqL K H a (ns.map V.int) ∧ ∀ (f c : Addr) (H' : Hp), Same H H' → H f = none → H c = none → Flow H' f c → Q (.ref f) H'
theorem cal__law_flow (T : Tp K mg) : Cal P w K mg base 2 "_law_flow" (sp_flow K) := by
  obtain ⟨fd, F⟩ := f__law_flow T
  refine cal_of F (g__law_flow T) (b__law_flow F) sc__law_flow (fun vs H Q E h => ?_) (fun cdv A outer s H vs Q E hr h => ?_)
  · obtain ⟨a, ns, rfl, _⟩ := h
    rfl
  · obtain ⟨a, ns, rfl, hS, q⟩ := h
    refine ⟨_, (pss_one (ps_ret (pe_lst (pa_cons (pe_callTy call_list_of (by rfl) (z_list T) bb_list (pa_cons (pe_slice sl_list (pv 0) po_none (po_some pe_int)) pa_nil)) (pa_cons pe_int (pa_cons pe_int (pa_cons pe_int pa_nil))))))), ?_⟩
    refine ⟨_, rfl, 63, rfl, a, _, rfl, hS, fun p np => ?_⟩
    obtain ⟨ms, e⟩ := cut_ints ns none (some 63)
    rw [e]
    have s1 := same_upd (o := .lst (ms.map V.int)) np
    refine ⟨p, _, rfl, .inl (.inl (.inl upd_same)), fun l nl => ?_⟩
    have s2 := same_upd (o := .lst (ms.map V.int)) nl
    refine ⟨by show 4 ≤ sizeLine; decide, fun f nf => ?_⟩
    have s3 := same_upd (o := .lst [.ref l, .int 0, .int 0, .int 11]) nf
    have sa := s1.trans s2
    exact q f l _ (sa.trans s3) (sa.free nf) (s1.free nl) ⟨ms, 0, 0, 11, upd_same, s3 _ _ upd_same, by decide, by decide, by decide, by decide⟩
/-! ### _law_draw -/
def sp_draw : Sp := fun vs H Q _ => ∃ (f c : Addr) (n : Int), vs = [.ref f, .int n] ∧ Flow H f c ∧ 0 < n ∧ n < 1606938044258990275541962092341162602522202993782792835301376 ∧ ∀ (v : Int) (H' : Hp), 0 ≤ v → v < n → Sb f H H' → Flow H' f c → Q (.int v) H'
theorem cal__law_draw (T : Tp K mg) : Cal P w K mg base 2 "_law_draw" sp_draw := by
  obtain ⟨fd, F⟩ := f__law_draw T
  refine cal_of F (g__law_draw T) (b__law_draw F) sc__law_draw (fun vs H Q E h => ?_) (fun cdv A outer s H vs Q E hr h => ?_)
  · obtain ⟨f, c, n, rfl, _⟩ := h
    rfl
  · obtain ⟨f, c, n, rfl, FL, n0, n1, q⟩ := h
    obtain ⟨ns, i, r, st, hf, hc, i0, r0, st0, st1⟩ := FL.ex
    have hn : n ≠ 0 := by omega
    have hdiv : CDivX r n := ⟨hn, big_log n1 n0⟩
    have ncf := flow_ne hf hc
    refine ⟨_, (pss_cons (ps_if (pt_cmpR op_gt (pe_ix ix_list (pv 0) pe_int (fun _ _ => rfl)) pe_int (nomark _)) (pss_cons (ps_set (i := 2) sc__law_draw.nd rfl (.inl rfl) (pe_op op_modN (pe_ix ix_list (pv 0) pe_int (fun _ _ => rfl)) (pv 1)))
        (pss_cons (ps_asg (pe_op op_fdivX (pe_ix ix_list (pv 0) pe_int (fun _ _ => rfl)) (pv 1)) (pg_sub (pv 0) pe_int set_list))
        (pss_one (ps_ret (pv 2))))) pss_nil)
      (pss_cons (ps_set (i := 3) sc__law_draw.nd rfl (.inl rfl) pe_int)
      (C8.pss_cut (ps_if (pt_cmpR op_lt (pe_ix ix_list (pv 0) pe_int (fun _ _ => rfl)) (pe_callB call_len_seq (by rfl) (z_len T) bb_len (pa_cons (pe_ix ix_list (pv 0) pe_int (fun _ _ => rfl)) pa_nil)) (nomark _)) (pss_one (ps_set (i := 3) sc__law_draw.nd rfl (.inl rfl) (pe_ix ix_list (pe_ix ix_list (pv 0) pe_int (fun _ _ => rfl)) (pe_ix ix_list (pv 0) pe_int (fun _ _ => rfl)) (fun _ _ => rfl)))) pss_nil)
      (pss_cons (ps_asg (pe_op op_add (pe_ix ix_list (pv 0) pe_int (fun _ _ => rfl)) pe_int) (pg_sub (pv 0) pe_int set_list))
      (pss_cons (ps_if (pt_cmpR op_ge (pe_callB call_abs (by rfl) (z_abs T) bb_abs (pa_cons (pv 3) pa_nil)) (pe_op op_pow pe_int pe_int) (nomark _)) (pss_cons (ps_asg (pe_op op_fdivX (pe_callB call_abs (by rfl) (z_abs T) bb_abs (pa_cons (pv 3) pa_nil)) (pv 1)) (pg_sub (pv 0) pe_int set_list))
        (pss_one (ps_ret (pe_op op_modN (pe_callB call_abs (by rfl) (z_abs T) bb_abs (pa_cons (pv 3) pa_nil)) (pv 1))))) pss_nil)
      (pss_cons (ps_set (i := 4) sc__law_draw.nd rfl (.inl rfl) (pe_op op_add (pe_op op_add (pe_op op_pow (pe_ix ix_list (pv 0) pe_int (fun _ _ => rfl)) pe_int) (pe_op op_mul (pe_ix ix_list (pv 0) pe_int (fun _ _ => rfl)) pe_int)) (pe_op op_mul (pe_ix ix_list (pv 0) pe_int (fun _ _ => rfl)) pe_int)))
      (pss_cons (ps_set (i := 4) sc__law_draw.nd rfl (.inl rfl) (pe_op op_modN (pe_op op_add (pv 4) (pe_op op_mul (pe_op op_modN (pv 3) pe_int) pe_int)) pe_int))
      (pss_cons (ps_asg (pv 4) (pg_sub (pv 0) pe_int set_list))
      (pss_one (ps_ret (pe_op op_modN (pe_op op_add (pe_op op_fdivN (pv 4) pe_int) (pe_op op_mul (pe_op op_modN (pv 4) pe_int) pe_int)) (pv 1)))))))))))), ?_⟩
    refine ⟨_, rfl, f, _, 2, _, rfl, rfl, .inl (.inl hf), atI_nat (j := 2) rfl, _, _, rfl, rfl, _, rfl, ite2 (fun e => ?_) (fun e => ?_)⟩
    · -- numbers are left of a great one
      refine ⟨_, rfl, f, _, 2, _, rfl, rfl, .inl (.inl hf), atI_nat (j := 2) rfl, _, rfl, _, _, rfl, rfl, hn, ?_⟩
      refine ⟨_, rfl, f, _, 2, _, rfl, rfl, .inl (.inl hf), atI_nat (j := 2) rfl, _, rfl, _, _, rfl, rfl, hdiv, _, rfl, f, _, 2, 2, rfl, rfl, hf, rfl, ?_⟩
      exact ⟨_, rfl, q _ _ (fm_lo _ n0) (fm_hi _ n0) Sb.upd (Flow.put hf hc i0 (fd_lo r0 n0) st0 st1)⟩
    · -- the next cell
      refine ⟨fun σ' H' => H' = H ∧ ∃ x : Int, σ' = [some (.ref f), some (.int n), none, some (.int x), none], ?_, ?_⟩
      · refine ⟨_, rfl, f, _, 1, _, rfl, rfl, .inl (.inl hf), atI_nat (j := 1) rfl, _, rfl, f, _, 0, _, rfl, rfl, .inl (.inl hf), atI_nat (j := 0) rfl, c, _, rfl, .inl (.inl (.inl hc)), _, _, rfl, rfl, _, rfl, ite2 (fun e => ?_) (fun e => ?_)⟩
        · have hi : i < ((ns.map V.int).length : Int) := of_decide_eq_true e
          rw [List.length_map] at hi
          have hj : i.toNat < ns.length := by omega
          refine ⟨_, rfl, f, _, 0, _, rfl, rfl, .inl (.inl hf), atI_nat (j := 0) rfl, _, rfl, f, _, 1, _, rfl, rfl, .inl (.inl hf), atI_nat (j := 1) rfl, c, _, i, .int ns[i.toNat], rfl, rfl, .inl (.inl hc), ?_, rfl, ns[i.toNat], rfl⟩
          refine at_of (j := i.toNat) (by omega) ?_
          rw [List.getElem?_map, List.getElem?_eq_getElem hj]
          rfl
        · exact ⟨rfl, 0, rfl⟩
      · rintro σ' H' ⟨rfl, x, rfl⟩
        -- flow[1] = flow[1] + 1
        refine ⟨_, rfl, f, _, 1, _, rfl, rfl, .inl (.inl hf), atI_nat (j := 1) rfl, _, _, rfl, rfl, _, rfl, f, _, 1, 1, rfl, rfl, hf, rfl, ?_⟩
        have hf1 : (upd H' f (.lst [.ref c, .int (i + 1), .int r, .int st])) f = some (.lst [.ref c, .int (i + 1), .int r, .int st]) := upd_same
        have hc1 : (upd H' f (.lst [.ref c, .int (i + 1), .int r, .int st])) c = some (.lst (ns.map V.int)) := by
          rw [upd_ne ncf]
          exact hc
        have sb1 : Sb f H' (upd H' f (.lst [.ref c, .int (i + 1), .int r, .int st])) := Sb.upd
        have a0 := abs_lo x
        refine ⟨_, rfl, _, rfl, 10, 18, rfl, rfl, ⟨by decide, by decide, by decide⟩, _, _, rfl, rfl, _, rfl, ite2 (fun e => ?_) (fun e => ?_)⟩
        · refine ⟨_, rfl, _, rfl, _, rfl, _, _, rfl, rfl, ⟨hn, big_log n1 n0⟩, _, rfl, f, _, 2, 2, rfl, rfl, hf1, rfl, ?_⟩
          exact ⟨_, rfl, _, rfl, _, rfl, _, _, rfl, rfl, hn, q _ _ (fm_lo _ n0) (fm_hi _ n0) (sb1.trans Sb.upd) (Flow.put hf1 hc1 (by omega) (fd_lo a0 n0) st0 st1)⟩
        · refine ⟨_, rfl, f, _, 3, _, rfl, rfl, .inl (.inl hf1), atI_nat (j := 3) rfl, st, 3, rfl, rfl, ⟨by decide, by decide, by omega⟩, ?_⟩
          refine ⟨_, rfl, f, _, 3, _, rfl, rfl, .inl (.inl hf1), atI_nat (j := 3) rfl, st, 31, rfl, rfl, .inr ⟨by decide, by decide⟩, _, _, rfl, rfl, ?_⟩
          refine ⟨_, rfl, f, _, 1, _, rfl, rfl, .inl (.inl hf1), atI_nat (j := 1) rfl, i + 1, 69621, rfl, rfl, .inr ⟨by decide, by decide⟩, _, _, rfl, rfl, ?_⟩
          refine ⟨_, rfl, _, rfl, x, 2147483629, rfl, rfl, (show (2147483629 : Int) ≠ 0 by decide), _, 48271, rfl, rfl, .inr ⟨by decide, by decide⟩, _, _, rfl, rfl, _, 2147483647, rfl, rfl, (show (2147483647 : Int) ≠ 0 by decide), ?_⟩
          have b0 := fm_lo (st ^ (3 : Int).toNat + st * 31 + (i + 1) * 69621 + x.fmod 2147483629 * 48271) (n := 2147483647) (by decide)
          have b1 := fm_hi (st ^ (3 : Int).toNat + st * 31 + (i + 1) * 69621 + x.fmod 2147483629 * 48271) (n := 2147483647) (by decide)
          refine ⟨_, rfl, _, rfl, f, _, 3, 3, rfl, rfl, hf1, rfl, ?_⟩
          refine ⟨_, rfl, _, 8192, rfl, rfl, ⟨by decide, by decide⟩, _, rfl, _, 8191, rfl, rfl, (show (8191 : Int) ≠ 0 by decide), _, 40503, rfl, rfl, .inr ⟨by decide, by decide⟩, _, _, rfl, rfl, _, rfl, _, n, rfl, rfl, hn, ?_⟩
          exact q _ _ (fm_lo _ n0) (fm_hi _ n0) (sb1.trans Sb.upd) (Flow.put hf1 hc1 (by omega) r0 b0 b1)
/-! ### _law_pick -/
def sp_pick : Sp := fun vs H Q _ => ∃ (f c l : Addr) (xs : List V), vs = [.ref f, .ref l] ∧ Flow H f c ∧ H l = some (.lst xs) ∧ l ≠ f ∧ 0 < xs.length ∧ xs.length ≤ 1000 ∧ ∀ (v : V) (H' : Hp), v ∈ xs → Sb f H H' → Flow H' f c → Q v H'
theorem cal__law_pick (T : Tp K mg) : Cal P w K mg base 3 "_law_pick" sp_pick := by
  obtain ⟨fd, F⟩ := f__law_pick T
  refine cal_of F (g__law_pick T) (b__law_pick F) sc__law_pick (fun vs H Q E h => ?_) (fun cdv A outer s H vs Q E hr h => ?_)
  · obtain ⟨f, c, l, xs, rfl, _⟩ := h
    rfl
  · obtain ⟨f, c, l, xs, rfl, FL, hl, nlf, h0, h1, q⟩ := h
    refine ⟨_, (pss_one (ps_ret (pe_ix ix_list (pv 1) (C8.pe_c (cal__law_draw T) hr (by decide) rfl (pa_cons (pv 0) (pa_cons (pe_callB call_len_seq (by rfl) (z_len T) bb_len (pa_cons (pv 1) pa_nil)) pa_nil))) (fun _ _ => rfl)))), ?_⟩
    refine ⟨_, rfl, _, rfl, _, rfl, l, _, rfl, .inl (.inl (.inl hl)), f, c, _, rfl, FL, by omega, by omega, fun v H1 v0 v1 sb F1 => ?_⟩
    have hv : v.toNat < xs.length := by omega
    exact ⟨l, xs, v, xs[v.toNat], rfl, rfl, .inl (.inl (sb _ _ hl nlf)), at_of (j := v.toNat) (by omega) (List.getElem?_eq_getElem hv), q _ H1 (List.getElem_mem hv) sb F1⟩
end
end Tw

set_option maxHeartbeats 4000000
namespace Tw
open PySem PySem.Spec PyProof.Rows L2
/-! ### the law's own picture of a web: a dict -/
abbrev kBy : Key := .inr "by"
abbrev kOwn : Key := .inr "own"
abbrev kWd : Key := .inr "winds"
abbrev kBd : Key := .inr "bonds"
theorem k1 : ¬ kBy = kOwn := by decide +kernel
theorem k2 : ¬ kBy = kWd := by decide +kernel
theorem k3 : ¬ kBy = kBd := by decide +kernel
theorem k4 : ¬ kOwn = kWd := by decide +kernel
theorem k5 : ¬ kOwn = kBd := by decide +kernel
theorem k6 : ¬ kWd = kBd := by decide +kernel
def mk (l : Int) (o w b : Addr) : List (Key × V) := [(kBy, .int l), (kOwn, .ref o), (kWd, .ref w), (kBd, .ref b)]
section
variable {l : Int} {o w b o2 : Addr} {H : Hp} {d : Addr}
theorem mk_by (h : H d = some (.dK (mk l o w b))) : DGet H d (.str "by") (some (.int l)) := .inl ⟨_, kBy, .inl h, rfl, by
  unfold mk
  rw [valV_pos rfl]⟩
theorem mk_own (h : H d = some (.dK (mk l o w b))) : DGet H d (.str "own") (some (.ref o)) := .inl ⟨_, kOwn, .inl h, rfl, by
  unfold mk
  rw [valV_neg k1, valV_pos rfl]⟩
theorem mk_wd (h : H d = some (.dK (mk l o w b))) : DGet H d (.str "winds") (some (.ref w)) := .inl ⟨_, kWd, .inl h, rfl, by
  unfold mk
  rw [valV_neg k2, valV_neg k4, valV_pos rfl]⟩
theorem mk_bd (h : H d = some (.dK (mk l o w b))) : DGet H d (.str "bonds") (some (.ref b)) := .inl ⟨_, kBd, .inl h, rfl, by
  unfold mk
  rw [valV_neg k3, valV_neg k5, valV_neg k6, valV_pos rfl]⟩
theorem mk_putOwn : putK (mk l o w b) kOwn (.ref o2) = mk l o2 w b := by
  have n4 : ¬ kWd = kOwn := fun e => k4 e.symm
  have n5 : ¬ kBd = kOwn := fun e => k5 e.symm
  unfold putK mk
  rw [if_pos (by rw [List.any_cons, List.any_cons, decide_eq_true (rfl : kOwn = kOwn)]; simp)]
  simp only [List.map_cons, List.map_nil, if_neg k1, if_neg n4, if_neg n5, if_true]
end
theorem mk_merge (l : Int) (o w b : Addr) : mergeK [] [(kBy, .int l), (kOwn, .ref o), (kWd, .ref w), (kBd, .ref b)] = mk l o w b := by
  show putK (putK (putK (putK [] kBy (.int l)) kOwn (.ref o)) kWd (.ref w)) kBd (.ref b) = mk l o w b
  rw [putK_new (kvs := []) _ valV_nil, List.nil_append]
  rw [putK_new (kvs := [(kBy, V.int l)]) _ (by rw [valV_neg k1]; rfl), List.singleton_append]
  rw [putK_new (kvs := [(kBy, V.int l), (kOwn, V.ref o)]) _ (by rw [valV_neg k2, valV_neg k4]; rfl), List.cons_append, List.singleton_append]
  rw [putK_new (kvs := [(kBy, V.int l), (kOwn, V.ref o), (kWd, V.ref w)]) _ (by rw [valV_neg k3, valV_neg k5, valV_neg k6]; rfl)]
  rfl
/-- the picture m stands at d -/
structure MdAt (H : Hp) (d : Addr) (m : Md) : Prop where
  ex : ∃ (o w b : Addr) (ws bs : List V), H d = some (.dK (mk m.last o w b)) ∧ H o = some (.lst (m.own.map V.str)) ∧ H w = some (.lst ws) ∧ Rows H ws (m.wd.map Wd.row) ∧ H b = some (.lst bs) ∧ Rows H bs (m.bd.map Bd.row) ∧ o ≠ w ∧ o ≠ b ∧ w ≠ b
/-- .. with its three lists at o, w, b -/
structure MdX (H : Hp) (d o w b : Addr) (m : Md) : Prop where
  dk : H d = some (.dK (mk m.last o w b))
  own : H o = some (.lst (m.own.map V.str))
  wd : ∃ ws, H w = some (.lst ws) ∧ Rows H ws (m.wd.map Wd.row)
  bd : ∃ bs, H b = some (.lst bs) ∧ Rows H bs (m.bd.map Bd.row)
  now : o ≠ w
  nob : o ≠ b
  nwb : w ≠ b
theorem MdX.at {H : Hp} {d o w b : Addr} {m : Md} (M : MdX H d o w b m) : MdAt H d m := by
  obtain ⟨ws, h1, h2⟩ := M.wd
  obtain ⟨bs, h3, h4⟩ := M.bd
  exact ⟨o, w, b, ws, bs, M.dk, M.own, h1, h2, h3, h4, M.now, M.nob, M.nwb⟩
theorem strs_flow {H : Hp} {f c a : Addr} {l : List Str} (F : Flow H f c) (h : H a = some (.lst (l.map V.str))) : a ≠ f := by
  obtain ⟨ns, i, r, st, h1, _⟩ := F.ex
  refine ne_of h h1 fun e => ?_
  have e := HO.lst.inj e
  cases l with
  | nil => cases e
  | cons x t =>
    have e1 := (List.cons.inj e).1
    cases e1
theorem rows_flow {H : Hp} {f c a : Addr} {xs : List V} {rs : List (List V)} (F : Flow H f c) (h : H a = some (.lst xs)) (R : Rows H xs rs) : a ≠ f := by
  obtain ⟨ns, i, r, st, h1, _⟩ := F.ex
  refine ne_of h h1 fun e => ?_
  have e := HO.lst.inj e
  subst e
  obtain ⟨t, r', e1, _⟩ := R.at (i := 1) (x := .int i) rfl
  cases e1
theorem MdAt.same {H H' : Hp} {d : Addr} {m : Md} (M : MdAt H d m) (s : Same H H') : MdAt H' d m := by
  obtain ⟨o, w, b, ws, bs, h1, h2, h3, h4, h5, h6, h7⟩ := M.ex
  exact ⟨o, w, b, ws, bs, s _ _ h1, s _ _ h2, s _ _ h3, h4.keep (Kt.of s), s _ _ h5, h6.keep (Kt.of s), h7⟩
theorem MdAt.sb {H H' : Hp} {f c d : Addr} {m : Md} (M : MdAt H d m) (F : Flow H f c) (s : Sb f H H') : MdAt H' d m := by
  obtain ⟨o, w, b, ws, bs, h1, h2, h3, h4, h5, h6, h7⟩ := M.ex
  obtain ⟨xs, hf⟩ := F.lst
  have k := s.kt hf
  exact ⟨o, w, b, ws, bs, s _ _ h1 (ne_of h1 hf (by intro z; cases z)), s _ _ h2 (strs_flow F h2), s _ _ h3 (rows_flow F h3 h4), h4.keep k, s _ _ h5 (rows_flow F h5 h6), h6.keep k, h7⟩
theorem MdX.same {H H' : Hp} {d o w b : Addr} {m : Md} (M : MdX H d o w b m) (s : Same H H') : MdX H' d o w b m := by
  obtain ⟨ws, h1, h2⟩ := M.wd
  obtain ⟨bs, h3, h4⟩ := M.bd
  exact ⟨s _ _ M.dk, s _ _ M.own, ⟨ws, s _ _ h1, h2.keep (Kt.of s)⟩, ⟨bs, s _ _ h3, h4.keep (Kt.of s)⟩, M.now, M.nob, M.nwb⟩
theorem MdX.sb {H H' : Hp} {f c d o w b : Addr} {m : Md} (M : MdX H d o w b m) (F : Flow H f c) (s : Sb f H H') : MdX H' d o w b m := by
  obtain ⟨ws, h1, h2⟩ := M.wd
  obtain ⟨bs, h3, h4⟩ := M.bd
  obtain ⟨xs, hf⟩ := F.lst
  have k := s.kt hf
  exact ⟨s _ _ M.dk (ne_of M.dk hf (by intro z; cases z)), s _ _ M.own (strs_flow F M.own), ⟨ws, s _ _ h1 (rows_flow F h1 h2), h2.keep k⟩, ⟨bs, s _ _ h3 (rows_flow F h3 h4), h4.keep k⟩, M.now, M.nob, M.nwb⟩
/-- a span more -/
theorem MdX.addW {H : Hp} {d o w b t : Addr} {m : Md} {x : Wd} {ws : List V} (M : MdX H d o w b m) (e : H w = some (.lst ws)) (R : Rows H ws (m.wd.map Wd.row)) (ht : H t = some (.tup x.row)) : MdX (upd H w (.lst (ws ++ [.ref t]))) d o w b (m.addS x) := by
  obtain ⟨bs, h3, h4⟩ := M.bd
  have k : Kt H (upd H w (.lst (ws ++ [.ref t]))) := Kt.upd fun xs z => by
    rw [e] at z
    cases z
  refine ⟨?_, ?_, ⟨_, upd_same, ?_⟩, ⟨bs, ?_, h4.keep k⟩, M.now, M.nob, M.nwb⟩
  · rw [upd_ne (ne_of M.dk e (by intro z; cases z))]
    exact M.dk
  · rw [upd_ne M.now]
    exact M.own
  · show Rows _ _ ((m.wd ++ [x]).map Wd.row)
    rw [List.map_append]
    exact (R.keep k).snoc (k _ _ ht)
  · rw [upd_ne M.nwb.symm]
    exact h3
/-- a tie more -/
theorem MdX.addB {H : Hp} {d o w b t : Addr} {m : Md} {x : Bd} {bs : List V} (M : MdX H d o w b m) (e : H b = some (.lst bs)) (R : Rows H bs (m.bd.map Bd.row)) (ht : H t = some (.tup x.row)) : MdX (upd H b (.lst (bs ++ [.ref t]))) d o w b (m.addT x) := by
  obtain ⟨ws, h3, h4⟩ := M.wd
  have k : Kt H (upd H b (.lst (bs ++ [.ref t]))) := Kt.upd fun xs z => by
    rw [e] at z
    cases z
  refine ⟨?_, ?_, ⟨ws, ?_, h4.keep k⟩, ⟨_, upd_same, ?_⟩, M.now, M.nob, M.nwb⟩
  · rw [upd_ne (ne_of M.dk e (by intro z; cases z))]
    exact M.dk
  · rw [upd_ne M.nob]
    exact M.own
  · rw [upd_ne M.nwb]
    exact h3
  · show Rows _ _ ((m.bd ++ [x]).map Bd.row)
    rw [List.map_append]
    exact (R.keep k).snoc (k _ _ ht)
/-- the names that are drawn -/
def pool : List Str := ["a", "bb", "c", "zzzzzzzz", "ab", "x", "late", "by", "q", "tie", "ends", "waits", "k", "ba"]
theorem pool_nd : pool.Nodup := by decide +kernel
theorem pool_ok : (pool.all fun z => decide (1 ≤ z.length) && decide (z.length ≤ 8) && (z.cps.toList.all fun c => decide (c ∈ letters.cps.toList)) && !decide (z = "start")) = true := by decide +kernel
theorem pool_nm {z : Str} (h : z ∈ pool) : Nm z ∧ ¬ z = "start" := by
  have e := List.all_eq_true.mp pool_ok z h
  simp only [Bool.and_eq_true, decide_eq_true_eq, List.all_eq_true, Bool.not_eq_true', decide_eq_false_iff_not] at e
  exact ⟨⟨e.1.1.1, e.1.1.2, e.1.2⟩, e.2⟩
theorem pull_perm {α : Type} : ∀ (r : List α) (v : Nat) (h : v < r.length), (r[v] :: r.eraseIdx v).Perm r
  | [], v, h => absurd h (Nat.not_lt_zero _)
  | a :: r, 0, h => List.Perm.refl _
  | a :: r, v + 1, h => by
    have ih := pull_perm r v (Nat.lt_of_succ_lt_succ h)
    exact (List.Perm.swap a (r[v]'(Nat.lt_of_succ_lt_succ h)) (r.eraseIdx v)).trans (ih.cons a)
theorem erase_map {α β : Type} (g : α → β) : ∀ (r : List α) (v : Nat), (r.map g).eraseIdx v = (r.eraseIdx v).map g
  | [], _ => rfl
  | a :: r, 0 => rfl
  | a :: r, v + 1 => congrArg (g a :: ·) (erase_map g r v)
theorem nd_pull {l r : List Str} {v : Nat} (h : v < r.length) (nd : (l ++ r).Nodup) : ((l ++ [r[v]]) ++ r.eraseIdx v).Nodup := by
  have p : (r[v] :: r.eraseIdx v).Perm r := pull_perm r v h
  rw [List.append_assoc, List.singleton_append]
  exact (p.append_left l).nodup_iff.mpr nd
theorem mem_pull {r : List Str} {v : Nat} {z : Str} (h : v < r.length) : z ∈ r[v] :: r.eraseIdx v ↔ z ∈ r := (pull_perm r v h).mem_iff
section
variable {P : Program} {w : World} {K : PySem.W.Frag} {mg : Str → Option Value} {base : Heap}
/-! ### _law_names -/
def sp_names : Sp := fun vs H Q _ => ∃ (f c : Addr) (n : Int), vs = [.ref f, .int n] ∧ Flow H f c ∧ 0 ≤ n ∧ n ≤ 14 ∧ ∀ (q : Addr) (ns : List Str) (H' : Hp), Sb f H H' → Flow H' f c → H q = none → H' q = some (.lst (ns.map V.str)) → ns.length = n.toNat → ns.Nodup → (∀ z ∈ ns, z ∈ pool) → Q (.ref q) H'
end
end Tw

set_option maxHeartbeats 4000000
namespace Tw
open PySem PySem.Spec PyProof.Rows L2
section
variable {P : Program} {w : World} {K : PySem.W.Frag} {mg : Str → Option Value} {base : Heap}
/-! ### _law_model -/
def sp_model : Sp := fun vs H Q _ => ∃ l : Int, vs = [.int l] ∧ ∀ (d o u b : Addr) (H' : Hp), Same H H' → H d = none → H o = none → H u = none → H b = none → MdX H' d o u b ⟨l, [], [], []⟩ → Q (.ref d) H'
theorem cal__law_model (T : Tp K mg) : Cal P w K mg base 2 "_law_model" sp_model := by
  obtain ⟨fd, F⟩ := f__law_model T
  refine cal_of F (g__law_model T) (b__law_model F) sc__law_model (fun vs H Q E h => ?_) (fun cdv A outer s H vs Q E hr h => ?_)
  · obtain ⟨l, rfl, _⟩ := h
    rfl
  · obtain ⟨l, rfl, q⟩ := h
    refine ⟨_, (pss_one (ps_ret (pe_disp (pps_cons pe_str (pv 0) (pps_cons pe_str (pe_lst pa_nil) (pps_cons pe_str (pe_lst pa_nil) (pps_cons pe_str (pe_lst pa_nil) pps_nil)))) (by rfl) (by rfl) (fun z => by cases z) (by decide)))), ?_⟩
    refine fun d nd => ⟨_, rfl, Nat.zero_le _, fun o no => ⟨Nat.zero_le _, fun u nu => ⟨Nat.zero_le _, fun b nb => ?_⟩⟩⟩
    have s0 := same_upd (o := .dK []) nd
    have s1 := same_upd (o := .lst []) no
    have s2 := same_upd (o := .lst []) nu
    have s3 := same_upd (o := .lst []) nb
    have ed := s3 _ _ (s2 _ _ (s1 _ _ (upd_same (H := H) (a := d) (o := .dK []))))
    have eo := s3 _ _ (s2 _ _ (upd_same (H := upd H d (.dK [])) (a := o) (o := .lst [])))
    have eu := s3 _ _ (upd_same (H := upd (upd H d (.dK [])) o (.lst [])) (a := u) (o := .lst []))
    have eb := upd_same (H := upd (upd (upd H d (.dK [])) o (.lst [])) u (.lst [])) (a := b) (o := .lst [])
    have nod : o ≠ d := (ne_of ed eo (by intro z; cases z)).symm
    have nud : u ≠ d := (ne_of ed eu (by intro z; cases z)).symm
    have nbd : b ≠ d := (ne_of ed eb (by intro z; cases z)).symm
    have nou : o ≠ u := ne_of_none (s1 _ _ upd_same |> fun _ => upd_same) nu
    have nob : o ≠ b := ne_of_none (s2 _ _ upd_same) nb
    have nub : u ≠ b := ne_of_none upd_same nb
    refine ⟨ed, [(kBy, .int l), (kOwn, .ref o), (kWd, .ref u), (kBd, .ref b)], rfl, (by show 4 ≤ 15; decide), ?_⟩
    rw [mk_merge]
    refine q d o u b _ (fun x y e => ?_) nd (s0.free no) ((s0.trans s1).free nu) (((s0.trans s1).trans s2).free nb) ⟨upd_same, by rw [upd_ne nod]; exact eo, ⟨[], by rw [upd_ne nud]; exact eu, .nil⟩, ⟨[], by rw [upd_ne nbd]; exact eb, .nil⟩, nou, nob, nub⟩
    rw [upd_ne (ne_of_none e nd)]
    exact s3 _ _ (s2 _ _ (s1 _ _ (s0 _ _ e)))
/-! ### _law_points -/
def sp_lpoints : Sp := fun vs H Q _ => ∃ (d : Addr) (m : Md), vs = [.ref d] ∧ MdAt H d m ∧ m.own.length ≤ 14 ∧ m.wd.length ≤ 14 ∧ ∀ (q : Addr) (H' : Hp), Same H H' → H q = none → H' q = some (.lst (m.pts.map V.str)) → Q (.ref q) H'
theorem cal__law_points (T : Tp K mg) : Cal P w K mg base 2 "_law_points" sp_lpoints := by
  obtain ⟨fd, F⟩ := f__law_points T
  refine cal_of F (g__law_points T) (b__law_points F) sc__law_points (fun vs H Q E h => ?_) (fun cdv A outer s H vs Q E hr h => ?_)
  · obtain ⟨d, m, rfl, _⟩ := h
    rfl
  · obtain ⟨d, m, rfl, M, l1, l2, q⟩ := h
    have hu := hu_of hr
    obtain ⟨o, u, b, ws, bs, h1, h2, h3, h4, h5, h6, h7⟩ := M.ex
    have hw : ws.length = m.wd.length := by rw [h4.len, List.length_map]
    refine ⟨_, (pss_one (ps_ret (pe_op op_cat (pe_op op_cat (pe_lst (pa_cons pe_str pa_nil)) (pe_dget hu (pv 0) pe_str (fun _ _ => rfl))) (pe_lc (own := [("_law_wind", 1)]) (g := gName 1) (tt := tYes) rfl sc__law_points.nd (pi_list (pe_dget hu (pv 0) pe_str (fun _ _ => rfl))) (blkOk_by (N := N__law_points) (sc := defScope s__law_points) (by decide +kernel)) (fun _ _ _ _ _ => (pg_name (i := 1) sc__law_points.nd rfl (.inl rfl))) (fun _ _ _ _ _ => pts_nil) (fun _ _ _ _ _ => (pe_ix (ix_tupK (K := K) rfl) (pv 1) pe_int (fun _ _ => rfl))))))), ?_⟩
    refine ⟨by show 1 ≤ sizeLine; decide, fun l nl => ?_⟩
    have s1 := same_upd (o := .lst [.str "start"]) nl
    refine ⟨_, rfl, d, _, rfl, mk_own (s1 _ _ h1), l, o, _, _, rfl, rfl, upd_same, s1 _ _ h2, ?_, fun r nr => ?_⟩
    · rw [List.length_map]
      exact Nat.le_of_lt (small1000 (by show 1 + _ ≤ 1000; omega))
    · have s2 := same_upd (o := .lst ([.str "start"] ++ m.own.map V.str)) nr
      have sa := s1.trans s2
      refine ⟨_, rfl, d, _, rfl, mk_wd (sa _ _ h1), u, rfl, ⟨_, .inl (.inl (sa _ _ h3))⟩, fun D nD => ?_⟩
      have nDH : H D = none := sa.free nD
      refine lc_list (K := K) (a := u) (xs := ws) (fun i H1 => Same (upd (upd H l (.lst [.str "start"])) r (.lst ([.str "start"] ++ m.own.map V.str))) H1 ∧ H1 D = some (.lst (((m.wd.map (·.en)).take i).map V.str)))
        ⟨same_upd nD, upd_same⟩ (fun i H1 _ ⟨s3, _⟩ => .inl (.inl (s3 _ _ (sa _ _ h3)))) ?_ ?_
      · rintro i x H1 hx ⟨s3, d1⟩
        obtain ⟨t, r', rfl, hr', ht⟩ := h4.at hx
        rw [List.getElem?_map] at hr'
        cases e : m.wd[i]? with
        | none =>
          rw [e] at hr'
          cases hr'
        | some y =>
          rw [e] at hr'
          cases hr'
          have hi : i < m.wd.length := (List.getElem?_eq_some_iff.mp e).1
          refine ⟨rfl, yes_i (iteT ⟨_, rfl, t, _, 0, _, rfl, rfl, .inl (.inl (s3 _ _ (sa _ _ ht))), atI_nat (j := 0) rfl, _, d1, ?_, ?_, ?_⟩)⟩
          · rw [List.length_map, List.length_take]
            exact small1000 (by omega)
          · exact same_put s3 nD
          · rw [upd_same, List.take_add_one, List.getElem?_map, e, List.map_append]
            rfl
      · rintro H1 ⟨s3, d1⟩
        have en : (m.wd.map (·.en)).take ws.length = m.wd.map (·.en) := List.take_of_length_le (by rw [List.length_map]; omega)
        rw [en] at d1
        refine ⟨r, D, _, _, rfl, rfl, s3 _ _ upd_same, d1, ?_, fun x nx => ?_⟩
        · rw [List.length_append, List.length_map, List.length_map, List.length_map]
          exact Nat.le_of_lt (small1000 (by show 1 + _ + _ ≤ 1000; omega))
        · have s4 := same_upd (o := .lst ([.str "start"] ++ m.own.map V.str ++ (m.wd.map (·.en)).map V.str)) nx
          have sb := sa.trans s3
          refine q x _ (sb.trans s4) (sb.free nx) ?_
          rw [upd_same]
          unfold Md.pts
          rw [List.map_cons, List.map_append]
          rfl
/-! ### _law_wind -/
structure WdOk (own : List Str) (x : Wd) : Prop where
  bg : x.bg = "start" ∨ x.bg ∈ own
  lo : 1 ≤ x.lo
  hi : x.lo ≤ x.hi
  top : x.hi ≤ 1000
  la : ∀ i, x.la = some i → 0 ≤ i ∧ i ≤ 1000
def sp_wind : Sp := fun vs H Q _ => ∃ (f c o : Addr) (z : Str) (own : List Str) (far : Int), vs = [.ref f, .str z, .ref o, .int far] ∧ Flow H f c ∧ H o = some (.lst (own.map V.str)) ∧ own.length ≤ 14 ∧ 1 ≤ far ∧ far ≤ 500 ∧
  ∀ (t : Addr) (x : Wd) (H' : Hp), Sb f H H' → Flow H' f c → H t = none → H' t = some (.tup x.row) → x.en = z → WdOk own x → (x.lo ≤ far ∧ x.hi < 2 * far ∧ ∀ i, x.la = some i → i ≤ far) → Q (.ref t) H'
/-! ### _law_bond -/
structure BdOk (pts : List Str) (x : Bd) : Prop where
  one : x.one ∈ pts
  oth : x.oth ∈ pts
  ne : ¬ x.one = x.oth
  b : BOk x.bot x.top
def sp_bond : Sp := fun vs H Q _ => ∃ (f c o : Addr) (pts : List Str) (far : Int), vs = [.ref f, .ref o, .int far] ∧ Flow H f c ∧ H o = some (.lst (pts.map V.str)) ∧ 2 ≤ pts.length ∧ pts.length ≤ 100 ∧ pts.Nodup ∧ 1 ≤ far ∧ far ≤ 250 ∧
  ∀ (t : Addr) (x : Bd) (H' : Hp), Sb f H H' → Flow H' f c → H t = none → H' t = some (.tup x.row) → BdOk pts x → Q (.ref t) H'
theorem bok_lo {a : Int} (h1 : -1000 ≤ a) (h2 : a ≤ 1000) : BOk (some a) none := by
  refine ⟨fun z => (nomatch z.1), fun x e => ?_, fun x e => (nomatch e), fun x y _ e => (nomatch e)⟩
  cases e
  exact ⟨h1, h2⟩
theorem bok_hi {a : Int} (h1 : -1000 ≤ a) (h2 : a ≤ 1000) : BOk none (some a) := by
  refine ⟨fun z => (nomatch z.2), fun x e => (nomatch e), fun x e => ?_, fun x y e _ => (nomatch e)⟩
  cases e
  exact ⟨h1, h2⟩
theorem bok_two {a b : Int} (h1 : -1000 ≤ a) (h2 : a ≤ 1000) (h3 : -1000 ≤ b) (h4 : b ≤ 1000) (h5 : a ≤ b) : BOk (some a) (some b) := by
  refine ⟨fun z => (nomatch z.1), fun x e => ?_, fun x e => ?_, fun x y e e2 => ?_⟩
  · cases e
    exact ⟨h1, h2⟩
  · cases e
    exact ⟨h3, h4⟩
  · cases e
    cases e2
    exact h5
theorem sb_free {f c t : Addr} {H H' : Hp} (sb : Sb f H H') (F : Flow H' f c) (nt : H' t = none) : H t = none := by
  cases e : H t with
  | none => rfl
  | some y =>
    have ntf : t ≠ f := fun z => by
      obtain ⟨zs, hf⟩ := F.lst
      rw [z, hf] at nt
      cases nt
    rw [sb _ _ e ntf] at nt
    cases nt
theorem cal__law_bond (T : Tp K mg) : Cal P w K mg base 4 "_law_bond" sp_bond := by
  obtain ⟨fd, F⟩ := f__law_bond T
  refine cal_of F (g__law_bond T) (b__law_bond F) sc__law_bond (fun vs H Q E h => ?_) (fun cdv A outer s H vs Q E hr h => ?_)
  · obtain ⟨f, c, o, pts, far, rfl, _⟩ := h
    rfl
  · obtain ⟨f, c, o, pts, far, rfl, FL, ho, p2, p3, nd, f0, f1, q⟩ := h
    refine ⟨_, (pss_cons (ps_set (i := 3) sc__law_bond.nd rfl (.inl rfl) (pe_callTy call_list_of (by rfl) (z_list T) bb_list (pa_cons (pv 1) pa_nil)))
      (pss_cons (ps_set (i := 4) sc__law_bond.nd rfl (.inl rfl) (pe_bm PySem.F.plainAttrs_list PySem.F.slot_list_pop PySem.F.type_list_pop mt_popAt (pv 3) (pa_cons (C8.pe_c (cal__law_draw T) hr (by decide) rfl (pa_cons (pv 0) (pa_cons (pe_callB call_len_seq (by rfl) (z_len T) bb_len (pa_cons (pv 3) pa_nil)) pa_nil))) pa_nil)))
      (pss_cons (ps_set (i := 5) sc__law_bond.nd rfl (.inl rfl) (C8.pe_c (cal__law_pick T) hr (by decide) rfl (pa_cons (pv 0) (pa_cons (pv 3) pa_nil))))
      (pss_cons (ps_set (i := 6) sc__law_bond.nd rfl (.inl rfl) (pe_op op_sub (C8.pe_c (cal__law_draw T) hr (by decide) rfl (pa_cons (pv 0) (pa_cons (pe_op op_add (pe_op op_mul pe_int (pv 2)) pe_int) pa_nil))) (pv 2)))
      (pss_cons (ps_set (i := 7) sc__law_bond.nd rfl (.inl rfl) (pe_op op_add (pv 6) (C8.pe_c (cal__law_draw T) hr (by decide) rfl (pa_cons (pv 0) (pa_cons (pe_op op_add (pe_op op_mul pe_int (pv 2)) pe_int) pa_nil)))))
      (pss_cons (ps_set (i := 8) sc__law_bond.nd rfl (.inl rfl) (C8.pe_c (cal__law_draw T) hr (by decide) rfl (pa_cons (pv 0) (pa_cons pe_int pa_nil))))
      (pss_cons (ps_if (pt_cmpR op_eq (pv 8) pe_int (nomark _)) (pss_one (ps_ret (pe_tup (pa_cons (pv 4) (pa_cons (pv 5) (pa_cons (pv 6) (pa_cons pe_non pa_nil))))))) pss_nil)
      (pss_cons (ps_if (pt_cmpR op_eq (pv 8) pe_int (nomark _)) (pss_one (ps_ret (pe_tup (pa_cons (pv 4) (pa_cons (pv 5) (pa_cons pe_non (pa_cons (pv 7) pa_nil))))))) pss_nil)
      (pss_one (ps_ret (pe_tup (pa_cons (pv 4) (pa_cons (pv 5) (pa_cons (pv 6) (pa_cons (pv 7) pa_nil))))))))))))))), ?_⟩
    refine ⟨_, rfl, o, _, rfl, .inl (.inl (.inl ho)), fun l nl => ?_⟩
    have s1 := same_upd (o := .lst (pts.map V.str)) nl
    have F1 := FL.same s1
    obtain ⟨zs, hf⟩ := FL.lst
    obtain ⟨ys, hc⟩ := FL.cells
    have nlf : l ≠ f := (ne_of_none hf nl).symm
    have ncl : c ≠ l := ne_of_none hc nl
    refine ⟨_, rfl, .inl ⟨rfl, _, .inl (.inl upd_same)⟩, _, rfl, _, rfl, l, _, rfl, .inl (.inl (.inl upd_same)), f, c, _, rfl, F1, by rw [List.length_map]; omega, by rw [List.length_map]; omega, fun v H2 v0 v1 sb2 F2 => ?_⟩
    rw [List.length_map] at v1
    have hv : v.toNat < pts.length := by omega
    have hl2 := sb2 _ _ (upd_same (H := H) (a := l) (o := .lst (pts.map V.str))) nlf
    refine ⟨l, _, v, v.toNat, .str pts[v.toNat], rfl, rfl, hl2, by omega, by omega, ?_, ?_, ?_⟩
    · unfold seqIndex?
      rw [if_neg (show ¬ v < 0 by omega), if_pos (by simp only [Bool.and_eq_true, decide_eq_true_eq, List.length_map]; omega)]
    · rw [List.getElem?_map, List.getElem?_eq_getElem hv]
      rfl
    · have F3 : Flow (upd H2 l (.lst ((pts.map V.str).eraseIdx v.toNat))) f c := F2.upd nlf.symm ncl
      have hl3 : (upd H2 l (.lst ((pts.map V.str).eraseIdx v.toNat))) l = some (.lst ((pts.eraseIdx v.toNat).map V.str)) := by rw [upd_same, erase_map]
      have hlen : ((pts.eraseIdx v.toNat).map V.str).length = pts.length - 1 := by rw [List.length_map, List.length_eraseIdx_of_lt hv]
      have sb3 : Sb f H (upd H2 l (.lst ((pts.map V.str).eraseIdx v.toNat))) := fun b x e nb => by
        rw [upd_ne (ne_of_none e nl)]
        exact sb2 _ _ (s1 _ _ e) nb
      refine ⟨_, rfl, _, rfl, f, c, l, _, rfl, F3, hl3, nlf, by omega, by omega, fun y H4 hy sb4 F4 => ?_⟩
      obtain ⟨g, hg, rfl⟩ := List.mem_map.mp hy
      have nd2 : (pts[v.toNat] :: pts.eraseIdx v.toNat).Nodup := (pull_perm pts v.toNat hv).nodup_iff.mpr nd
      have hgp : g ∈ pts := (pull_perm pts v.toNat hv).mem_iff.mp (List.mem_cons_of_mem _ hg)
      have hne : ¬ pts[v.toNat] = g := fun e => (List.nodup_cons.mp nd2).1 (e ▸ hg)
      have sbA := sb3.trans sb4
      refine ⟨_, rfl, _, rfl, 3, far, rfl, rfl, .inl ⟨by decide, by decide⟩, _, 1, rfl, rfl, f, c, _, rfl, F4, by omega, by omega, fun v5 H5 a5 b5 sb5 F5 => ⟨_, rfl, _, _, rfl, rfl, ?_⟩⟩
      refine ⟨_, rfl, _, rfl, _, rfl, 2, far, rfl, rfl, .inl ⟨by decide, by decide⟩, _, 1, rfl, rfl, f, c, _, rfl, F5, by omega, by omega, fun v6 H6 a6 b6 sb6 F6 => ⟨_, _, rfl, rfl, ?_⟩⟩
      refine ⟨_, rfl, f, c, 5, rfl, F6, by decide, by decide, fun v7 H7 a7 b7 sb7 F7 => ?_⟩
      have sbB := ((sbA.trans sb5).trans sb6).trans sb7
      have hp : pts[v.toNat] ∈ pts := List.getElem_mem hv
      have done : ∀ (t : Addr) (bo to : Option Int), BOk bo to → H7 t = none → Q (.ref t) (upd H7 t (.tup [.str pts[v.toNat], .str g, oV bo, oV to])) := fun t bo to hb nt =>
        q t ⟨pts[v.toNat], g, bo, to⟩ _ (sbB.trans (Sb.of (same_upd nt))) (F7.same (same_upd nt)) (sb_free sbB F7 nt) upd_same ⟨hp, hgp, hne, hb⟩
      refine ⟨_, rfl, rfl, _, rfl, ite2 (fun e => ?_) (fun e => ?_)⟩
      · refine ⟨_, rfl, _, rfl, _, rfl, (by show 4 ≤ sizeLine; decide), fun t nt => done t (some (v5 - far)) none (bok_lo (by omega) (by omega)) nt⟩
      · refine ⟨_, rfl, rfl, _, rfl, ite2 (fun e => ?_) (fun e => ?_)⟩
        · refine ⟨_, rfl, _, rfl, _, rfl, (by show 4 ≤ sizeLine; decide), fun t nt => done t none (some (v5 - far + v6)) (bok_hi (by omega) (by omega)) nt⟩
        · refine ⟨_, rfl, _, rfl, _, rfl, _, rfl, (by show 4 ≤ sizeLine; decide), fun t nt => done t (some (v5 - far)) (some (v5 - far + v6)) (bok_two (by omega) (by omega) (by omega) (by omega) (by omega)) nt⟩
end
end Tw

set_option maxHeartbeats 4000000
namespace Tw
open PySem PySem.Spec PyProof.Rows L2
theorem cut_pre (ns : List Str) {a : Int} (h : 0 ≤ a) : cutV (ns.map V.str) none (some a) = (ns.take a.toNat).map V.str := by
  obtain ⟨k, rfl⟩ : ∃ k : Nat, a = k := ⟨a.toNat, by omega⟩
  unfold cutV
  rw [HT.sIx_none, HT.sIx_nat, List.drop_zero, Nat.sub_zero, Int.toNat_natCast, List.map_take]
  by_cases hk : k ≤ (ns.map V.str).length
  · rw [Nat.min_eq_left hk]
  · have past := Nat.le_of_lt (Nat.not_le.mp hk)
    rw [Nat.min_eq_right past, List.take_length]
    exact (List.take_of_length_le past).symm
theorem cut_suf (ns : List Str) {a : Int} (h : 0 ≤ a) : cutV (ns.map V.str) (some a) none = (ns.drop a.toNat).map V.str := by
  obtain ⟨k, rfl⟩ : ∃ k : Nat, a = k := ⟨a.toNat, by omega⟩
  unfold cutV
  rw [HT.sIx_none, HT.sIx_nat, Int.toNat_natCast, List.map_drop]
  by_cases hk : k ≤ (ns.map V.str).length
  · rw [Nat.min_eq_left hk]
    exact List.take_of_length_le (by rw [List.length_drop]; exact Nat.le_refl _)
  · have past := Nat.le_of_lt (Nat.not_le.mp hk)
    rw [Nat.min_eq_right past, List.drop_length, List.take_nil]
    exact (List.drop_of_length_le past).symm
/-- what a drawn picture keeps -/
structure MdOk (m : Md) : Prop where
  last : 1 ≤ m.last ∧ m.last ≤ 1000
  nd : (m.own ++ m.wd.map (·.en)).Nodup
  pool : ∀ z ∈ m.own ++ m.wd.map (·.en), z ∈ pool
  wd : ∀ x ∈ m.wd, WdOk m.own x
  bd : ∀ x ∈ m.bd, BdOk m.pts x
  len : m.own.length ≤ 10 ∧ m.wd.length ≤ 4 ∧ m.bd.length ≤ 40
def Near (far : Int) (x : Wd) : Prop := x.lo ≤ far ∧ x.hi < 2 * far ∧ ∀ i, x.la = some i → i ≤ far
theorem pts_nd {own : List Str} {ends : List Str} (nd : (own ++ ends).Nodup) (hp : ∀ z ∈ own ++ ends, z ∈ pool) : (("start" : Str) :: (own ++ ends)).Nodup :=
  List.nodup_cons.mpr ⟨fun h => (pool_nm (hp _ h)).2 rfl, nd⟩
section
variable {P : Program} {w : World} {K : PySem.W.Frag} {mg : Str → Option Value} {base : Heap}
def sp_drawn : Sp := fun vs H Q _ => ∃ (f c : Addr) (a b e far last : Int), vs = [.ref f, .int a, .int b, .int e, .int far, .int last] ∧ Flow H f c ∧ 1 ≤ a ∧ a ≤ 10 ∧ 0 ≤ b ∧ b ≤ 4 ∧ 0 ≤ e ∧ e ≤ 40 ∧ 1 ≤ far ∧ far ≤ 500 ∧ (e = 0 ∨ far ≤ 250) ∧ 1 ≤ last ∧ last ≤ 1000 ∧
  ∀ (d : Addr) (m : Md) (H' : Hp), Sb f H H' → Flow H' f c → H d = none → MdAt H' d m → MdOk m → m.last = last → m.own.length = a.toNat → m.wd.length = b.toNat → m.bd.length = e.toNat → (∀ x ∈ m.wd, Near far x) → Q (.ref d) H'
def sp_drawnX : Sp := fun vs H Q _ => ∃ (f c : Addr) (a b e far last : Int), vs = [.ref f, .int a, .int b, .int e, .int far, .int last] ∧ Flow H f c ∧ 1 ≤ a ∧ a ≤ 10 ∧ 0 ≤ b ∧ b ≤ 4 ∧ 0 ≤ e ∧ e ≤ 40 ∧ 1 ≤ far ∧ far ≤ 500 ∧ (e = 0 ∨ far ≤ 250) ∧ 1 ≤ last ∧ last ≤ 1000 ∧
  ∀ (d o u b' : Addr) (m : Md) (H' : Hp), Sb f H H' → Flow H' f c → H d = none → H b' = none → MdX H' d o u b' m → MdOk m → m.last = last → m.own.length = a.toNat → m.wd.length = b.toNat → m.bd.length = e.toNat → (∀ x ∈ m.wd, Near far x) → Q (.ref d) H'
theorem cal_imp {k : Nat} {x : Str} {sp sp' : Sp} {dvs : List V} (c : C8.Cal P w K mg base k x sp dvs) (h : ∀ vs H Q E, sp' vs H Q E → sp vs H Q E) : C8.Cal P w K mg base k x sp' dvs :=
  let ⟨f, fd, ps, ds, F, a, b, c, d⟩ := c.ex
  ⟨f, fd, ps, ds, F.imp h, a, b, c, d⟩
end
end Tw

set_option maxHeartbeats 4000000
namespace Tw
open PySem PySem.Spec PyProof.Rows L2
theorem nd_take {α : Type} {l : List α} {i : Nat} {z : α} (nd : l.Nodup) (e : l[i]? = some z) : ¬ z ∈ l.take i := by
  have h : (l.take (i + 1)).Nodup := List.Sublist.nodup (List.take_sublist _ _) nd
  rw [List.take_add_one, e] at h
  intro m
  exact (List.nodup_append.mp h).2.2 z m z (List.mem_singleton.mpr rfl) rfl
theorem row_of {xs : List V} {H : Hp} {α : Type} {f : α → List V} {l : List α} {i : Nat} {x : V} (R : Rows H xs (l.map f)) (hx : xs[i]? = some x) : ∃ t y, x = .ref t ∧ l[i]? = some y ∧ H t = some (.tup (f y)) := by
  obtain ⟨t, r, e, hr, ht⟩ := R.at hx
  rw [List.getElem?_map] at hr
  cases ey : l[i]? with
  | none =>
    rw [ey] at hr
    cases hr
  | some y =>
    rw [ey] at hr
    cases hr
    exact ⟨t, y, e, rfl, ht⟩
section
variable {P : Program} {w : World} {K : PySem.W.Frag} {mg : Str → Option Value} {base : Heap}
def sp_web (K : PySem.W.Frag) : Sp := fun vs H Q _ => ∃ (d : Addr) (m : Md), vs = [.ref d] ∧ MdAt H d m ∧ MdOk m ∧ ∀ (p : Addr) (H' : Hp), Same H H' → H p = none → WebAt (CW K) H' p m → Q (.ref p) H'
end
end Tw

set_option maxHeartbeats 4000000
namespace Tw
open PySem PySem.Spec PyProof.Rows L2
/-- two values that are the same through and through, at most n deep -/
theorem small8s {n : Nat} (h : n ≤ 8000000) : n < sizeLine := by
  show n < 16777216
  omega
def Sm : Nat → V → V → Hp → Prop
  | 0, _, _, _ => False
  | n + 1, x, y, H => (x = y ∧ flatV x = true) ∨ ∃ (a b : Addr) (xs ys : List V), x = .ref a ∧ y = .ref b ∧ ((H a = some (.lst xs) ∧ H b = some (.lst ys)) ∨ (H a = some (.tup xs) ∧ H b = some (.tup ys))) ∧ xs.length = ys.length ∧ xs.length ≤ 8000000 ∧
    ∀ (i : Nat) (x y : V), xs[i]? = some x → ys[i]? = some y → Sm n x y H
theorem Sm.same {H H' : Hp} (s : Same H H') : ∀ {n : Nat} {x y : V}, Sm n x y H → Sm n x y H'
  | 0, _, _, h => h.elim
  | n + 1, x, y, h => by
    rcases h with h | ⟨a, b, xs, ys, ex, ey, h, hl, hl2, hi⟩
    · exact .inl h
    · refine .inr ⟨a, b, xs, ys, ex, ey, ?_, hl, hl2, fun i x y h1 h2 => Sm.same s (hi i x y h1 h2)⟩
      rcases h with ⟨h1, h2⟩ | ⟨h1, h2⟩
      · exact .inl ⟨s _ _ h1, s _ _ h2⟩
      · exact .inr ⟨s _ _ h1, s _ _ h2⟩
theorem Sm.succ {H : Hp} : ∀ {n : Nat} {x y : V}, Sm n x y H → Sm (n + 1) x y H
  | 0, _, _, h => h.elim
  | n + 1, x, y, h => by
    rcases h with h | ⟨a, b, xs, ys, ex, ey, h, hl, hl2, hi⟩
    · exact .inl h
    · exact .inr ⟨a, b, xs, ys, ex, ey, h, hl, hl2, fun i x y h1 h2 => Sm.succ (hi i x y h1 h2)⟩
theorem Sm.flat {H : Hp} {n : Nat} {x : V} (h : flatV x = true) : Sm (n + 1) x x H := .inl ⟨rfl, h⟩
theorem sm_eq {H : Hp} {n : Nat} {x y : V} (e : x = y) (h : flatV x = true) : Sm (n + 1) x y H := by
  subst e
  exact Sm.flat h
theorem sm_lst {H : Hp} {a b : Addr} {xs ys : List V} {n : Nat} (h1 : H a = some (.lst xs)) (h2 : H b = some (.lst ys)) (hl : xs.length = ys.length) (h0 : xs.length ≤ 1000) (h : ∀ (i : Nat) (x y : V), xs[i]? = some x → ys[i]? = some y → Sm n x y H) : Sm (n + 1) (.ref a) (.ref b) H :=
  .inr ⟨a, b, xs, ys, rfl, rfl, .inl ⟨h1, h2⟩, hl, Nat.le_trans h0 (by decide), h⟩
theorem sm_tup {H : Hp} {a b : Addr} {xs ys : List V} {n : Nat} (h1 : H a = some (.tup xs)) (h2 : H b = some (.tup ys)) (hl : xs.length = ys.length) (h0 : xs.length ≤ 1000) (h : ∀ (i : Nat) (x y : V), xs[i]? = some x → ys[i]? = some y → Sm n x y H) : Sm (n + 1) (.ref a) (.ref b) H :=
  .inr ⟨a, b, xs, ys, rfl, rfl, .inr ⟨h1, h2⟩, hl, Nat.le_trans h0 (by decide), h⟩
theorem sm_flats {H : Hp} {xs : List V} {n : Nat} (hf : xs.all flatV = true) : ∀ (i : Nat) (x y : V), xs[i]? = some x → xs[i]? = some y → Sm (n + 1) x y H := fun i x y h1 h2 => by
  rw [h1] at h2
  cases h2
  exact Sm.flat (List.all_eq_true.mp hf x (List.mem_of_getElem? h1))
theorem sm_strs {H : Hp} {a b : Addr} {l : List Str} {n : Nat} (h1 : H a = some (.lst (l.map V.str))) (h2 : H b = some (.lst (l.map V.str))) (h0 : l.length ≤ 1000) : Sm (n + 2) (.ref a) (.ref b) H :=
  sm_lst h1 h2 rfl (by rw [List.length_map]; exact h0) (sm_flats (flat_strs l))
theorem sm_rows {H : Hp} {a b : Addr} {xs ys : List V} {rs : List (List V)} {n : Nat} (h1 : H a = some (.lst xs)) (h2 : H b = some (.lst ys)) (r1 : Rows H xs rs) (r2 : Rows H ys rs) (h0 : rs.length ≤ 1000) (hf : ∀ r ∈ rs, r.all flatV = true ∧ r.length ≤ 1000) : Sm (n + 3) (.ref a) (.ref b) H := by
  refine sm_lst h1 h2 (by rw [r1.len, r2.len]) (by rw [r1.len]; exact h0) fun i x y hx hy => ?_
  obtain ⟨t, r, rfl, hr, ht⟩ := r1.at hx
  obtain ⟨u, r', rfl, hr', hu⟩ := r2.at hy
  rw [hr] at hr'
  cases hr'
  have hr2 := hf r (List.mem_of_getElem? hr)
  exact sm_tup ht hu rfl hr2.2 (sm_flats hr2.1)
/-- rows, however many -/
theorem sm_rows8 {H : Hp} {a b : Addr} {xs ys : List V} {rs : List (List V)} {n : Nat} (h1 : H a = some (.lst xs)) (h2 : H b = some (.lst ys)) (r1 : Rows H xs rs) (r2 : Rows H ys rs) (h0 : rs.length ≤ 8000000) (hf : ∀ r ∈ rs, r.all flatV = true ∧ r.length ≤ 1000) : Sm (n + 3) (.ref a) (.ref b) H := by
  refine .inr ⟨a, b, xs, ys, rfl, rfl, .inl ⟨h1, h2⟩, by rw [r1.len, r2.len], by rw [r1.len]; exact h0, fun i x y hx hy => ?_⟩
  obtain ⟨t, r, rfl, hr, ht⟩ := r1.at hx
  obtain ⟨u, r', rfl, hr', hu⟩ := r2.at hy
  rw [hr] at hr'
  cases hr'
  have hr2 := hf r (List.mem_of_getElem? hr)
  exact sm_tup ht hu rfl hr2.2 (sm_flats hr2.1)
theorem rIx_of {K : PySem.W.Frag} {H : Hp} {a : Addr} {xs : List V} {i : Int} {v : V} {Q : VK} (h : SqL K H a xs ∨ SqT K H a xs) (e : atI xs i = some v) (q : Q v H) : rIx K (.ref a) (.int i) H Q := by
  rcases h with h | h
  · exact .inl ⟨a, xs, i, v, rfl, rfl, h, e, q⟩
  · exact .inr (.inl ⟨a, xs, i, v, rfl, rfl, h, e, q⟩)
theorem sq_same {K : PySem.W.Frag} {H H' : Hp} {a : Addr} {xs : List V} (s : Same H H') (h : SqL K H a xs ∨ SqT K H a xs) : SqL K H' a xs ∨ SqT K H' a xs := by
  rcases h with h | h
  · exact .inl (s.seq h)
  · refine .inr ?_
    rcases h with (h | ⟨o, h⟩) | h
    · exact .inl (.inl (s _ _ h))
    · exact .inl (.inr ⟨o, s _ _ h⟩)
    · exact .inr h
theorem lenV_of {K : PySem.W.Frag} {H : Hp} {a : Addr} {xs : List V} (h : SqL K H a xs ∨ SqT K H a xs) : LenV K (.ref a) H xs.length := by
  rcases h with h | h
  · exact .inl ⟨xs, h, rfl⟩
  · exact .inr ⟨xs, h, rfl⟩
section
variable {P : Program} {w : World} {K : PySem.W.Frag} {mg : Str → Option Value} {base : Heap}
def sp_same (n : Nat) : Sp := fun vs H Q _ => ∃ x y : V, vs = [x, y] ∧ Sm n x y H ∧ ∀ H', Same H H' → Q (.bl true) H'
theorem cal_same (T : Tp K mg) : ∀ n : Nat, Cal P w K mg base n "_law_same" (sp_same n)
  | 0 => by
    obtain ⟨fd, F⟩ := f__law_same T
    exact ⟨_, fd, ["_law_found", "_law_due"], [], ⟨fun vs H Q E h => by
      obtain ⟨x, y, rfl, _⟩ := h
      rfl, fun A outer s H args us vs Q E _ _ _ _ h => by
      obtain ⟨x, y, rfl, h, _⟩ := h
      exact h.elim⟩, g__law_same T, F.kp, b__law_same F, .nil⟩
  | n + 1 => by
    have ih := cal_same T n
    obtain ⟨fd, F⟩ := f__law_same T
    refine cal_of F (g__law_same T) (b__law_same F) sc__law_same (fun vs H Q E h => ?_) (fun cdv A outer s H vs Q E hr h => ?_)
    · obtain ⟨x, y, rfl, _⟩ := h
      rfl
    · obtain ⟨x, y, rfl, h, q⟩ := h
      refine ⟨_, (pss_cons (ps_if (pt_val (pe_callB call_isK (by rfl) (z_isinstance T) bb_isinstance (pa_cons (pv 1) (pa_cons (pe_bltn (v := .ty "bool") (by rfl) (z_bool T) bb_bool rfl) pa_nil)))) (pss_one (ps_ret (pe_and (pe_callB call_isK (by rfl) (z_isinstance T) bb_isinstance (pa_cons (pv 0) (pa_cons (pe_bltn (v := .ty "bool") (by rfl) (z_bool T) bb_bool rfl) pa_nil))) (pe_one (pe_cmpR op_eq (pv 0) (pv 1) (nomark _)))))) pss_nil)
      (pss_cons (ps_if (pt_cmpR op_isN (pv 1) pe_non (nomark _)) (pss_one (ps_ret (pe_cmpR op_isN (pv 0) pe_non (nomark _)))) pss_nil)
      (pss_cons (ps_if (pt_val (pe_callB call_isK (by rfl) (z_isinstance T) bb_isinstance (pa_cons (pv 1) (pa_cons (pe_bltn (v := .ty "int") (by rfl) (z_int T) bb_int rfl) pa_nil)))) (pss_cons (ps_if (PW.pt (pw_or (pt_val (pe_callB call_isK (by rfl) (z_isinstance T) bb_isinstance (pa_cons (pv 0) (pa_cons (pe_bltn (v := .ty "bool") (by rfl) (z_bool T) bb_bool rfl) pa_nil)))) (pw_or1 (pt_not (pt_val (pe_callB call_isK (by rfl) (z_isinstance T) bb_isinstance (pa_cons (pv 0) (pa_cons (pe_bltn (v := .ty "int") (by rfl) (z_int T) bb_int rfl) pa_nil)))))))) (pss_one (ps_ret pe_bl)) pss_nil)
        (pss_one (ps_ret (pe_cmpR op_eq (pv 0) (pv 1) (nomark _))))) pss_nil)
      (pss_cons (ps_if (pt_val (pe_callB call_isK (by rfl) (z_isinstance T) bb_isinstance (pa_cons (pv 1) (pa_cons (pe_bltn (v := .ty "str") (by rfl) (z_str T) bb_str rfl) pa_nil)))) (pss_one (ps_ret (pe_and (pe_callB call_isK (by rfl) (z_isinstance T) bb_isinstance (pa_cons (pv 0) (pa_cons (pe_bltn (v := .ty "str") (by rfl) (z_str T) bb_str rfl) pa_nil))) (pe_one (pe_cmpR op_eq (pv 0) (pv 1) (nomark _)))))) pss_nil)
      (pss_cons (ps_if (pt_val (pe_callB call_isK (by rfl) (z_isinstance T) bb_isinstance (pa_cons (pv 1) (pa_cons (pe_bltn (v := .ty "dict") (by rfl) (z_dict T) bb_dict rfl) pa_nil)))) pss_never pss_nil)
      (pss_cons (ps_if (PW.pt (pw_and (pt_val (pe_callB call_isK (by rfl) (z_isinstance T) bb_isinstance (pa_cons (pv 1) (pa_cons (pe_bltn (v := .ty "tuple") (by rfl) (z_tuple T) bb_tuple rfl) pa_nil)))) (pw_and1 (pt_not (pt_val (pe_callB call_isK (by rfl) (z_isinstance T) bb_isinstance (pa_cons (pv 0) (pa_cons (pe_bltn (v := .ty "tuple") (by rfl) (z_tuple T) bb_tuple rfl) pa_nil)))))))) (pss_one (ps_ret pe_bl)) pss_nil)
      (pss_cons (ps_if (PW.pt (pw_and (pt_val (pe_callB call_isK (by rfl) (z_isinstance T) bb_isinstance (pa_cons (pv 1) (pa_cons (pe_bltn (v := .ty "list") (by rfl) (z_list T) bb_list rfl) pa_nil)))) (pw_and1 (pt_not (pt_val (pe_callB call_isK (by rfl) (z_isinstance T) bb_isinstance (pa_cons (pv 0) (pa_cons (pe_bltn (v := .ty "list") (by rfl) (z_list T) bb_list rfl) pa_nil)))))))) (pss_one (ps_ret pe_bl)) pss_nil)
      (pss_cons (ps_if (pt_cmpR op_ne (pe_callB call_len (by rfl) (z_len T) bb_len (pa_cons (pv 0) pa_nil)) (pe_callB call_len (by rfl) (z_len T) bb_len (pa_cons (pv 1) pa_nil)) (nomark _)) (pss_one (ps_ret pe_bl)) pss_nil)
      (pss_one (ps_ret (pe_callB (cr_all rfl) (by rfl) (z_all T) bb_all (pa_cons (pe_lc (own := [("_law_k", 3)]) (g := gName 3) (tt := tYes) rfl sc__law_same.nd (pi_range1 rfl (z_range T) (pa_cons (pe_callB call_len (by rfl) (z_len T) bb_len (pa_cons (pv 1) pa_nil)) pa_nil)) (blkOk_by (N := N__law_same) (sc := defScope s__law_same) (by decide +kernel)) (fun _ _ _ _ _ => (pg_name (i := 3) sc__law_same.nd rfl (.inl rfl))) (fun _ _ _ _ _ => pts_nil) (fun _ _ _ _ _ => (C8.pe_c ih hr (Nat.le_refl _) rfl (pa_cons (pe_ix (ix_seqK (K := K) rfl) (pv 0) (pv 3) (fun _ _ => rfl)) (pa_cons (pe_ix (ix_seqK (K := K) rfl) (pv 1) (pv 3) (fun _ _ => rfl)) pa_nil))))) pa_nil)))))))))))), ?_⟩
      rcases h with ⟨e, fl⟩ | ⟨a, b, xs, ys, ex, ey, hk, hl, hl2, hi⟩
      · subst e
        cases x with
        | bl v =>
          refine ⟨_, rfl, _, "bool", "bool", rfl, .base (.bl _), by decide, by decide, _, rfl, iteT ⟨_, rfl, _, "bool", "bool", rfl, .base (.bl _), by decide, by decide, _, rfl, iteT ⟨_, rfl, _, rfl, rfl, ?_⟩⟩⟩
          rw [decide_eq_true rfl]
          exact q H (Same.refl H)
        | non =>
          refine ⟨_, rfl, _, "bool", "NoneType", rfl, .base .non, by decide, by decide, _, rfl, iteF ⟨_, rfl, rfl, _, rfl, ?_⟩⟩
          rw [decide_eq_true rfl]
          refine iteT ⟨_, rfl, rfl, ?_⟩
          exact q H (Same.refl H)
        | int i =>
          refine ⟨_, rfl, _, "bool", "int", rfl, .base (.int _), by decide, by decide, _, rfl, iteF ⟨_, rfl, rfl, _, rfl, ?_⟩⟩
          rw [decide_eq_false (show ¬ V.int i = V.non by intro z; cases z)]
          refine iteF ⟨_, rfl, _, "int", "int", rfl, .base (.int _), by decide, by decide, _, rfl, iteT ⟨_, rfl, _, "bool", "int", rfl, .base (.int _), by decide, by decide, _, rfl, iteF ⟨_, rfl, _, "int", "int", rfl, .base (.int _), by decide, by decide, _, rfl, iteF ⟨_, rfl, _, rfl, rfl, ?_⟩⟩⟩⟩
          rw [decide_eq_true rfl]
          exact q H (Same.refl H)
        | str z =>
          refine ⟨_, rfl, _, "bool", "str", rfl, .base (.str _), by decide, by decide, _, rfl, iteF ⟨_, rfl, rfl, _, rfl, ?_⟩⟩
          rw [decide_eq_false (show ¬ V.str z = V.non by intro z; cases z)]
          refine iteF ⟨_, rfl, _, "int", "str", rfl, .base (.str _), by decide, by decide, _, rfl, iteF ⟨_, rfl, _, "str", "str", rfl, .base (.str _), by decide, by decide, _, rfl, iteT ⟨_, rfl, _, "str", "str", rfl, .base (.str _), by decide, by decide, _, rfl, iteT ⟨_, rfl, _, rfl, rfl, ?_⟩⟩⟩⟩
          rw [decide_eq_true rfl]
          exact q H (Same.refl H)
        | byt _ => cases fl
        | flt _ => cases fl
        | ref _ => cases fl
        | ty _ => cases fl
      · subst ex ey
        have sx : SqL K H a xs ∨ SqT K H a xs := by
          rcases hk with ⟨h1, h2⟩ | ⟨h1, h2⟩
          · exact .inl (.inl (.inl h1))
          · exact .inr (.inl (.inl h1))
        have sy : SqL K H b ys ∨ SqT K H b ys := by
          rcases hk with ⟨h1, h2⟩ | ⟨h1, h2⟩
          · exact .inl (.inl (.inl h2))
          · exact .inr (.inl (.inl h2))
        have nn : ¬ V.ref b = V.non := by intro z; cases z
        rcases hk with ⟨h1, h2⟩ | ⟨h1, h2⟩
        · refine ⟨_, rfl, _, "bool", "list", rfl, .base (.lst h2), by decide, by decide, _, rfl, iteF ⟨_, rfl, rfl, _, rfl, ?_⟩⟩
          rw [decide_eq_false nn]
          refine iteF ⟨_, rfl, _, "int", "list", rfl, .base (.lst h2), by decide, by decide, _, rfl, iteF ⟨_, rfl, _, "str", "list", rfl, .base (.lst h2), by decide, by decide, _, rfl, iteF ⟨_, rfl, _, "dict", "list", rfl, .base (.lst h2), by decide, by decide, _, rfl, iteF
            ⟨_, rfl, _, "tuple", "list", rfl, .base (.lst h2), by decide, by decide, _, rfl, iteF (iteF ⟨_, rfl, _, "list", "list", rfl, .base (.lst h2), by decide, by decide, _, rfl, iteT ⟨_, rfl, _, "list", "list", rfl, .base (.lst h1), by decide, by decide, _, rfl, iteF ?_⟩⟩)⟩⟩⟩⟩
          refine ⟨_, rfl, _, _, rfl, lenV_of sx, _, rfl, _, _, rfl, lenV_of sy, rfl, _, rfl, ?_⟩
          refine iteNS (by rw [hl]) ?_
          refine ⟨_, rfl, _, _, rfl, lenV_of sy, _, rfl, by omega, by omega, fun D nD => ?_⟩
          refine lc_range (lo := 0) (n := ys.length) (fun i H1 => Same H H1 ∧ H1 D = some (.lst ((List.replicate i true).map V.bl))) ⟨same_upd nD, upd_same⟩ ?_ ?_
          · rintro i H1 hi1 ⟨s1, d1⟩
            have hx : i < xs.length := by omega
            refine ⟨rfl, yes_i (iteT ⟨_, rfl, _, rfl, rIx_of (v := xs[i]) (sq_same s1 sx) (at_of (j := i) (by omega) (List.getElem?_eq_getElem hx)) ⟨_, rfl, _, rfl, rIx_of (v := ys[i]) (sq_same s1 sy) (at_of (j := i) (by omega) (List.getElem?_eq_getElem hi1)) ⟨_, _, rfl, (hi i _ _ (List.getElem?_eq_getElem hx) (List.getElem?_eq_getElem hi1)).same s1, fun H2 s2 => ⟨_, s2 _ _ d1, ?_, ?_, ?_⟩⟩⟩⟩)⟩
            · rw [List.length_map, List.length_replicate]
              exact small8s (by omega)
            · exact same_put (s1.trans s2) nD
            · rw [upd_same, List.replicate_succ', List.map_append]
              rfl
          · rintro H1 ⟨s1, d1⟩
            refine ⟨D, _, rfl, .inl (.inl d1), ?_⟩
            rw [show (List.replicate ys.length true).all id = true by simp]
            exact q H1 s1
        · refine ⟨_, rfl, _, "bool", "tuple", rfl, .base (.tup h2), by decide, by decide, _, rfl, iteF ⟨_, rfl, rfl, _, rfl, ?_⟩⟩
          rw [decide_eq_false nn]
          refine iteF ⟨_, rfl, _, "int", "tuple", rfl, .base (.tup h2), by decide, by decide, _, rfl, iteF ⟨_, rfl, _, "str", "tuple", rfl, .base (.tup h2), by decide, by decide, _, rfl, iteF ⟨_, rfl, _, "dict", "tuple", rfl, .base (.tup h2), by decide, by decide, _, rfl, iteF
            ⟨_, rfl, _, "tuple", "tuple", rfl, .base (.tup h2), by decide, by decide, _, rfl, iteT ⟨_, rfl, _, "tuple", "tuple", rfl, .base (.tup h1), by decide, by decide, _, rfl, iteF ⟨_, rfl, _, "list", "tuple", rfl, .base (.tup h2), by decide, by decide, _, rfl, iteF (iteF ?_)⟩⟩⟩⟩⟩⟩
          refine ⟨_, rfl, _, _, rfl, lenV_of sx, _, rfl, _, _, rfl, lenV_of sy, rfl, _, rfl, ?_⟩
          refine iteNS (by rw [hl]) ?_
          refine ⟨_, rfl, _, _, rfl, lenV_of sy, _, rfl, by omega, by omega, fun D nD => ?_⟩
          refine lc_range (lo := 0) (n := ys.length) (fun i H1 => Same H H1 ∧ H1 D = some (.lst ((List.replicate i true).map V.bl))) ⟨same_upd nD, upd_same⟩ ?_ ?_
          · rintro i H1 hi1 ⟨s1, d1⟩
            have hx : i < xs.length := by omega
            refine ⟨rfl, yes_i (iteT ⟨_, rfl, _, rfl, rIx_of (v := xs[i]) (sq_same s1 sx) (at_of (j := i) (by omega) (List.getElem?_eq_getElem hx)) ⟨_, rfl, _, rfl, rIx_of (v := ys[i]) (sq_same s1 sy) (at_of (j := i) (by omega) (List.getElem?_eq_getElem hi1)) ⟨_, _, rfl, (hi i _ _ (List.getElem?_eq_getElem hx) (List.getElem?_eq_getElem hi1)).same s1, fun H2 s2 => ⟨_, s2 _ _ d1, ?_, ?_, ?_⟩⟩⟩⟩)⟩
            · rw [List.length_map, List.length_replicate]
              exact small8s (by omega)
            · exact same_put (s1.trans s2) nD
            · rw [upd_same, List.replicate_succ', List.map_append]
              rfl
          · rintro H1 ⟨s1, d1⟩
            refine ⟨D, _, rfl, .inl (.inl d1), ?_⟩
            rw [show (List.replicate ys.length true).all id = true by simp]
            exact q H1 s1
/-- as it is asked by the laws: data at most six deep -/
theorem cal__law_same (T : Tp K mg) : Cal P w K mg base 7 "_law_same" (sp_same 7) := cal_same T 7
end
end Tw

set_option maxHeartbeats 4000000
namespace Tw
open PySem PySem.Spec PyProof.Rows L2
section
variable {prog : Program} {w : World} {A : Around} {E : Value → Shared → Prop} {s : Shared} {K : PySem.W.Frag} {x C L f : Addr} {h₀ : Heap} {m : Str → Option Value} {ox : Obj} {od : Option Obj}
open PySem.W PySem.Calls Builtin in
/-- what truthy's own call of len finds: the answer of __len__, in its bounds -/
theorem len_ownBody {Q : Value → Shared → Prop} (X : K.In s.heap) (I : InstAt s.heap x ox C od) (hs : findIn K (.ref C) "__len__" = some (some (.ref f))) (hf : isFn K (.ref f) = true)
    (h : wpAny (model prog w) A (call (.ref f) [.ref x]) (PySem.W.LenBack Q) E s) : wpAny (model prog w) A (Builtin.«len» ⟨[.ref x], []⟩) (fun fin s' => ∃ r, fin = .done (.ret r) ∧ Q r s') E s := by
  have ask : ∀ {R : Option Value → Shared → Prop}, (∀ n u s', (0 ≤ n ∧ n < 2 ^ 63) → Q (.int n s'.toks) { s' with toks := s'.toks + 1 } → R (some (.int n u)) s') → wpAny (model prog w) A (callSpecial? (.ref x) (Str.ofString "__len__")) R E s := fun {R} k =>
    special_fn X I hs (beq_iff_eq.mp hf) (wpAny_mono h (fun r s' back => by
      cases r with
      | int n u => exact k n u s' back.1 back.2
      | _ => exact False.elim back) fun _ _ y => y)
  unfold Builtin.«len»
  repeat (first | with_reducible refine ask fun n u s' bnd back => ?_ | wp_step)
  rw [if_neg (Int.not_le.mpr bnd.2)]
  repeat wp_step
  exact ⟨_, rfl, back⟩
open PySem.W PySem.Calls Builtin in
theorem truthy_own {Q : Bool → Shared → Prop} (X : K.In s.heap) (I : InstAt s.heap x ox C od) (hb : findIn K (.ref C) "__bool__" = some none) (hs : findIn K (.ref C) "__len__" = some (some (.ref f))) (hf : isFn K (.ref f) = true)
    (h : wpAny (model prog w) A.in1 (call (.ref f) [.ref x]) (PySem.W.LenBack fun v s' => ∃ n t, v = .int n t ∧ Q (n != 0) s') E s) : wpAny (model prog w) A (truthy (.ref x)) Q E s := by
  have counted : ∀ {R : Value → Shared → Prop}, (∀ n t s', Q (n != 0) s' → R (.int n t) s') → wpAny (model prog w) A (runValue (.builtin "len" ⟨[.ref x], []⟩)) R E s := fun {R} k =>
    wpAny_runValue (codeAny_builtin entry_len (by
      rw [Around.under_plainId plain_len]
      refine wpAny_mono (len_ownBody X I hs hf h) ?_ fun _ _ z => z
      rintro _ s' ⟨_, rfl, n, t, rfl, q⟩
      exact k n t s' q))
  have noBool := looks_findIn (M := model prog w) X hb
  have hasLen := looks_findIn (M := model prog w) X hs
  unfold truthy callSpecial? specialOf
  repeat (first | with_reducible refine I.type.here ?_ | with_reducible refine noBool.here ?_ | with_reducible refine hasLen.here ?_ | with_reducible refine counted fun n t s' q => ?_ | assumption | wp_step)
theorem bool_new (l : Addr) : MeetsIn prog w (Builtin.«bool.__new__» ⟨[.type "bool", .ref l], []⟩) (fun A R s => wpAny (model prog w) A.in1 (truthy (.ref l)) (fun b s' => R (.ok (.ret (.bool b))) s') (fun e s' => R (.error e) s') s) :=
  .of_wp fun A R s hs => by
    have f1 := PySem.F.conv_sub_bool
    obtain ⟨hp, g, d, tk, os⟩ := s
    have ht : ∀ {Q : Bool → Shared → Prop}, (∀ b s', R (.ok (.ret (.bool b))) s' → Q b s') → wpAny (model prog w) A.in1 (truthy (.ref l)) Q (fun e s' => R (.error e) s') (Shared.mk hp g d tk os) := fun h => wpAny_mono hs (fun b s' z => h b s' z) fun _ _ z => z
    repeat (any_goals (first | assumption | (with_reducible refine ht fun b s' z => ?_) | wp_step))
    all_goals exact ⟨_, rfl, z⟩
end
section
variable {X : Cx} {k j : Nat} {C : Addr} {sp : Sp}
/-- bool(o) by an own __len__ -/
def rBoolO (C : Addr) (sp : Sp) : List V → Hp → VK → Prop := fun xs H Q => ∃ a dx fs, xs = [.ref a] ∧ H a = some (.ins C dx fs) ∧ sp [.ref a] H (fun v H' => ∃ i : Int, v = .int i ∧ 0 ≤ i ∧ i < 2 ^ 63 ∧ Q (.bl (i != 0)) H') E0
theorem call_boolO (c : Met X.prog X.w X.K X.mg X.base k C "__len__" sp) (nb : NoAttr X.K C "__bool__") (hr : Room j X.A) (hk : k + 3 ≤ j) : CallR X (.type "bool") (rBoolO C sp) := by
  rintro pins s σ H _ us Q I r ⟨a, dx, fs, rfl, here, q⟩
  obtain rfl := Vals.ref1 r
  obtain ⟨f, hs, hf, F⟩ := own0 c
  obtain ⟨_, J0, _⟩ := ins_get I.hok here
  obtain ⟨_, J, _⟩ := J0.look
  have room : Room k X.A.in1.in1.in1 := (hr.mono hk).in1.in1.in1
  refine callType_newIn PySem.F.called_bool PySem.F.newNe_bool (PySem.F.typeCall_bool_1 _) (PySem.F.newCall_bool_1 _) (fun obj => PySem.F.args_object_init_2 obj _) PySem.F.entry_bool_new (bool_new a) ?_
  refine truthy_own I.kIn J nb hs hf (thn (wpAny_call (SlX.run_at F room I.env0.in1.in1.in1 pass0 I r q)) ?_)
  rintro _ s1 ⟨_, H1, I1, rv, i, rfl, low, high, q1⟩
  obtain ⟨_, rfl⟩ := rv
  exact ⟨⟨low, high⟩, i, _, rfl, rfl, .bl (i != 0), H1, I1.tok _, rfl, q1⟩
end
end Tw

set_option maxHeartbeats 4000000
namespace Tw
open PySem PySem.Spec PyProof.Rows L2
theorem wd_flat (l : List Wd) : ∀ r ∈ l.map Wd.row, r.all flatV = true ∧ r.length ≤ 1000 := fun r h => by
  obtain ⟨x, _, rfl⟩ := List.mem_map.mp h
  refine ⟨?_, by show 5 ≤ 1000; decide⟩
  unfold Wd.row
  cases x.la <;> rfl
theorem bd_flat (l : List Bd) : ∀ r ∈ l.map Bd.row, r.all flatV = true ∧ r.length ≤ 1000 := fun r h => by
  obtain ⟨x, _, rfl⟩ := List.mem_map.mp h
  refine ⟨?_, by show 4 ≤ 1000; decide⟩
  unfold Bd.row
  cases x.bot <;> cases x.top <;> rfl
theorem sm_three {H : Hp} {a b : Addr} {x1 x2 x3 y1 y2 y3 : V} {n : Nat} (h1 : H a = some (.lst [x1, x2, x3])) (h2 : H b = some (.lst [y1, y2, y3])) (e1 : Sm n x1 y1 H) (e2 : Sm n x2 y2 H) (e3 : Sm n x3 y3 H) : Sm (n + 1) (.ref a) (.ref b) H := by
  refine sm_lst h1 h2 rfl (by show 3 ≤ 1000; decide) fun i x y hx hy => ?_
  match i, hx, hy with
  | 0, hx, hy =>
    cases hx
    cases hy
    exact e1
  | 1, hx, hy =>
    cases hx
    cases hy
    exact e2
  | 2, hx, hy =>
    cases hx
    cases hy
    exact e3
theorem empty_web : Str.empty ++ ("Web(" : Str) = ("Web(" : Str) := by decide +kernel
section
variable {P : Program} {w : World} {K : PySem.W.Frag} {mg : Str → Option Value} {base : Heap}
def sp_stands (K : PySem.W.Frag) : Sp := fun vs H Q _ => ∃ (p d : Addr) (m : Md), vs = [.ref p, .ref d] ∧ WebAt (CW K) H p m ∧ MdAt H d m ∧ ∀ H', Same H H' → Q (.bl true) H'
theorem cal__law_stands (T : Tp K mg) : Cal P w K mg base 9 "_law_stands" (sp_stands K) := by
  obtain ⟨fd, F⟩ := f__law_stands T
  refine cal_of F (g__law_stands T) (b__law_stands F) sc__law_stands (fun vs H Q E h => ?_) (fun cdv A outer s H vs Q E hr h => ?_)
  · obtain ⟨p, d, m, rfl, _⟩ := h
    rfl
  · obtain ⟨p, d, m, rfl, W, M, q⟩ := h
    have hu := hu_of hr
    have hlen := W.len
    have hlast := W.last
    have hpts := pts_len W
    refine ⟨_, (pss_cons (ps_set (i := 2) sc__law_stands.nd rfl (.inl rfl) (C8.pe_c (cal__law_points T) hr (by decide) rfl (pa_cons (pv 1) pa_nil)))
      (pss_cons (ps_set (i := 3) sc__law_stands.nd rfl (.inl rfl) (pe_lst (pa_cons (pe_fld (pv 0) rfl) (pa_cons (C8.pe_mt0 (met_Web_moments T) hr (by decide) (pv 0)) (pa_cons (C8.pe_mt0 (met_Web_spans T) hr (by decide) (pv 0)) pa_nil)))))
      (pss_cons (ps_if (pt_not (pt_val (C8.pe_c (cal__law_same T) hr (by decide) rfl (pa_cons (pv 3) (pa_cons (pe_lst (pa_cons (pe_dget hu (pv 1) pe_str (fun _ _ => rfl)) (pa_cons (pe_dget hu (pv 1) pe_str (fun _ _ => rfl)) (pa_cons (pe_dget hu (pv 1) pe_str (fun _ _ => rfl)) pa_nil)))) pa_nil))))) (pss_one (ps_ret pe_bl)) pss_nil)
      (pss_cons (ps_set (i := 3) sc__law_stands.nd rfl (.inl rfl) (pe_lst (pa_cons (C8.pe_mt0 (met_Web_ties T) hr (by decide) (pv 0)) (pa_cons (C8.pe_mt0 (met_Web_points T) hr (by decide) (pv 0)) (pa_cons (pe_callB (call_lenO (met_Web_UlenU T) hr (by decide)) (by rfl) (z_len T) bb_len (pa_cons (pv 0) pa_nil)) pa_nil)))))
      (pss_cons (ps_if (pt_not (pt_val (C8.pe_c (cal__law_same T) hr (by decide) rfl (pa_cons (pv 3) (pa_cons (pe_lst (pa_cons (pe_dget hu (pv 1) pe_str (fun _ _ => rfl)) (pa_cons (pv 2) (pa_cons (pe_callB call_len_seq (by rfl) (z_len T) bb_len (pa_cons (pv 2) pa_nil)) pa_nil)))) pa_nil))))) (pss_one (ps_ret pe_bl)) pss_nil)
      (pss_cons (ps_set (i := 4) sc__law_stands.nd rfl (.inl rfl) (pe_op op_add_str (pe_op op_add_str pe_str (pe_callTy call_str_int (by rfl) (z_str T) bb_str (pa_cons (pe_callB call_len_seq (by rfl) (z_len T) bb_len (pa_cons (pv 2) pa_nil)) pa_nil))) pe_str))
      (pss_cons (ps_set (i := 4) sc__law_stands.nd rfl (.inl rfl) (pe_op op_add_str (pe_op op_add_str (pe_op op_add_str (pe_op op_add_str (pv 4) (pe_callTy call_str_int (by rfl) (z_str T) bb_str (pa_cons (pe_callB call_len_seq (by rfl) (z_len T) bb_len (pa_cons (pe_dget hu (pv 1) pe_str (fun _ _ => rfl)) pa_nil)) pa_nil))) pe_str) (pe_callTy call_str_int (by rfl) (z_str T) bb_str (pa_cons (pe_dget hu (pv 1) pe_str (fun _ _ => rfl)) pa_nil))) pe_str))
      (pss_one (ps_ret (C8.pe_c (cal__law_same T) hr (by decide) rfl (pa_cons (pe_callB (call_reprO (met_Web_UreprU T) hr (by decide)) (by rfl) (z_repr T) bb_repr (pa_cons (pv 0) pa_nil)) (pa_cons (pv 4) pa_nil)))))))))))), ?_⟩
    refine ⟨_, rfl, d, m, rfl, M, by omega, by omega, fun pl H1 s1 npl hpl => ?_⟩
    have W1 := W.same s1
    obtain ⟨dx, a, b, c, ws, bs, h1, h2, h3, h4, h5, h6⟩ := W1.ex
    -- found = [web.by, web.moments(), web.spans()]
    refine ⟨_, rfl, p, CW K, dx, _, _, rfl, h1, cl_Web T, na_by T, wf_by, _, rfl, p, dx, _, rfl, h1, wf_no (by decide +kernel), p, m, rfl, W1, fun k1 n1 => ?_⟩
    have t1 := same_upd (o := .lst (m.own.map V.str)) n1
    have W2 := W1.same t1
    refine ⟨_, rfl, p, dx, _, rfl, t1 _ _ h1, wf_no (by decide +kernel), p, m, rfl, W2, fun ws2 k2 r2 n2 => ⟨by show 3 ≤ sizeLine; decide, fun l n3 => ?_⟩⟩
    have t2 := same_upd (o := .lst ws2) n2
    have t3 := same_upd (o := .lst [.int m.last, .ref k1, .ref k2]) n3
    have e1 := t3 _ _ (t2 _ _ (upd_same (H := H1) (a := k1) (o := .lst (m.own.map V.str))))
    have e2 := t3 _ _ (upd_same (H := upd H1 k1 (.lst (m.own.map V.str))) (a := k2) (o := .lst ws2))
    have sA := ((s1.trans t1).trans t2).trans t3
    obtain ⟨o, u, v, us, vs, g1, g2, g3, g4, g5, g6, g7⟩ := (M.same sA).ex
    -- [m['by'], m['own'], m['winds']]
    refine ⟨_, rfl, _, rfl, d, _, rfl, mk_by g1, _, rfl, d, _, rfl, mk_own g1, _, rfl, d, _, rfl, mk_wd g1, (by show 3 ≤ sizeLine; decide), fun l2 n4 => ?_⟩
    have t4 := same_upd (o := .lst [.int m.last, .ref o, .ref u]) n4
    refine ⟨_, _, rfl, sm_three (t4 _ _ upd_same) upd_same (Sm.flat rfl) (sm_strs (t4 _ _ e1) (t4 _ _ g2) (by omega)) (sm_rows (t4 _ _ e2) (t4 _ _ g3) (r2.keep (Kt.of (((t2).trans t3).trans t4))) (g4.keep (Kt.of t4)) (by rw [List.length_map]; omega) (wd_flat _)), fun H5 s5 => ⟨_, rfl, iteF ?_⟩⟩
    -- found = [web.ties(), web.points(), len(web)]
    have sB := (sA.trans t4).trans s5
    have W5 := W.same sB
    obtain ⟨dx5, a5, b5, c5, ws5, bs5, f1, f2, f3, f4, f5, f6⟩ := W5.ex
    refine ⟨_, rfl, p, dx5, _, rfl, f1, wf_no (by decide +kernel), p, m, rfl, W5, fun bs6 k5 r6 n5 => ?_⟩
    have t5 := same_upd (o := .lst bs6) n5
    have W6 := W5.same t5
    refine ⟨_, rfl, p, dx5, _, rfl, t5 _ _ f1, wf_no (by decide +kernel), p, m, rfl, W6, fun k6 H6 s6 n6 e6 => ?_⟩
    have W7 := W6.same s6
    refine ⟨_, rfl, p, dx5, _, rfl, s6 _ _ (t5 _ _ f1), p, m, rfl, W7, fun H7 s7 => ⟨_, rfl, by omega, by omega, by show 3 ≤ sizeLine; decide, fun l5 n7 => ?_⟩⟩
    have t7 := same_upd (o := .lst [.ref k5, .ref k6, .int (m.pts.length : Nat)]) n7
    have sC := (((t5.trans s6).trans s7).trans t7)
    have ek5 := t7 _ _ (s7 _ _ (s6 _ _ (upd_same (H := H5) (a := k5) (o := .lst bs6))))
    have ek6 := t7 _ _ (s7 _ _ e6)
    have sD := sB.trans sC
    obtain ⟨o8, u8, v8, us8, vs8, j1, j2, j3, j4, j5, j6, j7⟩ := (M.same sD).ex
    have epl := sC _ _ (s5 _ _ (t4 _ _ (t3 _ _ (t2 _ _ (t1 _ _ hpl)))))
    refine ⟨_, rfl, _, rfl, d, _, rfl, mk_bd j1, _, rfl, _, rfl, pl, _, rfl, .inl (.inl (.inl epl)), (by show 3 ≤ sizeLine; decide), fun l6 n8 => ?_⟩
    have t8 := same_upd (o := .lst [.ref v8, .ref pl, .int ((m.pts.map V.str).length : Nat)]) n8
    refine ⟨_, _, rfl, sm_three (t8 _ _ upd_same) upd_same (sm_rows (t8 _ _ ek5) (t8 _ _ j5) (r6.keep (Kt.of (sC.trans t8))) (j6.keep (Kt.of t8)) (by rw [List.length_map]; omega) (bd_flat _)) (sm_strs (t8 _ _ ek6) (t8 _ _ epl) (by omega)) (by rw [List.length_map]; exact Sm.flat rfl), fun H9 s9 => ⟨_, rfl, iteF ?_⟩⟩
    -- the text
    have sE := (sD.trans t8).trans s9
    have epl9 := s9 _ _ (t8 _ _ epl)
    have W9 := W.same sE
    obtain ⟨dx9, a9, b9, c9, ws9, bs9, w1, w2, w3, w4, w5, w6⟩ := W9.ex
    obtain ⟨o9, u9, v9, us9, vs9, i1, i2, i3, i4, i5, i6, i7⟩ := (M.same sE).ex
    have hvs : vs9.length = m.bd.length := by rw [i6.len, List.length_map]
    have l0 : ("Web(" : Str).length ≤ 4 := by decide +kernel
    have l1 := num_le (i := (m.pts.length : Nat)) (by omega) (by omega)
    have l2 : (" points, " : Str).length ≤ 9 := by decide +kernel
    have l3 := num_le (i := (m.bd.length : Nat)) (by omega) (by omega)
    have l4 : (" ties, by " : Str).length ≤ 10 := by decide +kernel
    have l5 := num_le (i := m.last) (by omega) (by omega)
    have l6 : (")" : Str).length ≤ 1 := by decide +kernel
    have fits : ∀ {x y : Str} {i j : Nat}, x.length ≤ i → y.length ≤ j → i + j ≤ 1000 → x.length + y.length ≤ sizeLine := fun h1 h2 h3 => Nat.le_of_lt (small1000 (by omega))
    have m1 := app_le l0 l1
    have m2 := app_le m1 l2
    have m3 := app_le m2 l3
    have m4 := app_le m3 l4
    have m5 := app_le m4 l5
    refine ⟨_, rfl, pl, _, rfl, .inl (.inl (.inl epl9)), _, rfl, ?_, ?_⟩
    · rw [List.length_map]
      exact num_log (by omega) (by omega)
    · rw [List.length_map]
      refine ⟨_, _, rfl, rfl, fits l0 l1 (by decide), _, _, rfl, rfl, fits m1 l2 (by decide), ?_⟩
      refine ⟨_, rfl, _, rfl, d, _, rfl, mk_bd i1, v9, _, rfl, .inl (.inl (.inl i5)), _, rfl, by rw [hvs]; exact num_log (by omega) (by omega), ?_⟩
      rw [hvs]
      refine ⟨_, _, rfl, rfl, fits m2 l3 (by decide), _, _, rfl, rfl, fits m3 l4 (by decide), _, rfl, d, _, rfl, mk_by i1, _, rfl, num_log (by omega) (by omega), _, _, rfl, rfl, fits m4 l5 (by decide), _, _, rfl, rfl, fits m5 l6 (by decide), ?_⟩
      refine ⟨_, rfl, p, dx9, _, rfl, w1, p, m, rfl, W9, fun H10 s10 => ⟨_, rfl, _, rfl, _, _, rfl, sm_eq ?_ rfl, fun H11 s11 => q H11 ((sE.trans s10).trans s11)⟩⟩
      unfold webText
      rw [empty_web]
      rfl
end
end Tw

set_option maxHeartbeats 4000000
namespace Tw
open PySem PySem.Spec PyProof.Rows L2
open LamX (ExtN Tabs)
theorem WebAt.ext {C : Addr} {H H' : Hp} {p : Addr} {m : Md} (W : WebAt C H p m) (e : ExtN H H') : WebAt C H' p m := W.keep (fun dx fs h => e _ _ h fun ps z => by cases z) (fun b xs h => e _ _ h fun ps z => by cases z)
theorem Flow.ext {H H' : Hp} {f c : Addr} (h : Flow H f c) (e : ExtN H H') : Flow H' f c := by
  obtain ⟨ns, i, r, st, e1, e2, e3⟩ := h.ex
  exact ⟨ns, i, r, st, e _ _ e1 (fun ps z => by cases z), e _ _ e2 (fun ps z => by cases z), e3⟩
theorem MdAt.ext {H H' : Hp} {d : Addr} {m : Md} (M : MdAt H d m) (e : ExtN H H') : MdAt H' d m := by
  obtain ⟨o, w, b, ws, bs, h1, h2, h3, h4, h5, h6, h7⟩ := M.ex
  have k : Kt H H' := fun b xs h => e _ _ h fun ps z => by cases z
  exact ⟨o, w, b, ws, bs, e _ _ h1 (fun ps z => by cases z), e _ _ h2 (fun ps z => by cases z), e _ _ h3 (fun ps z => by cases z), h4.keep k, e _ _ h5 (fun ps z => by cases z), h6.keep k, h7⟩
theorem tabs_same {T : List (Addr × Str)} {H H' : Hp} (h : Tabs T H) (s : Same H H') : Tabs T H' := fun p hp => (h p hp).ext s
theorem tabs_sb {T : List (Addr × Str)} {H H' : Hp} {f : Addr} {xs : List V} (h : Tabs T H) (s : Sb f H H') (hf : H f = some (.lst xs)) : Tabs T H' := fun p hp => by
  obtain ⟨ps, h1, h2, h3⟩ := h p hp
  refine ⟨ps, s _ _ h1 (ne_of h1 hf (by intro z; cases z)), h2, fun pos cv hc => ?_⟩
  obtain ⟨c, e1, e2⟩ := h3 pos cv hc
  exact ⟨c, e1, s _ _ e2 (ne_of e2 hf (by intro z; cases z))⟩
theorem kt_lst {H : Hp} {D : Addr} {xs ys : List V} (h : H D = some (.lst xs)) : Kt H (upd H D (.lst ys)) := Kt.upd fun zs z => by
  rw [h] at z
  cases z
theorem pts_nm {m : Md} (ok : MdOk m) {z : Str} (h : z ∈ m.pts) : Nm z := by
  rcases List.mem_cons.mp h with h | h
  · rw [h]
    exact nmB_ok.mp (by decide +kernel)
  · exact (pool_nm (ok.pool z h)).1
theorem nm_len {z : Str} (h : Nm z) : z.length ≤ 1000 := Nat.le_trans h.2.1 (by decide)
theorem sm_two {H : Hp} {a b : Addr} {x y : V} {n : Nat} (h1 : H a = some (.tup [x, y])) (h2 : H b = some (.tup [x, y])) (hx : flatV x = true) (hy : flatV y = true) : Sm (n + 2) (.ref a) (.ref b) H :=
  sm_tup h1 h2 rfl (by show 2 ≤ 1000; decide) (sm_flats (by show (flatV x && (flatV y && true)) = true; rw [hx, hy]; rfl))
theorem sm_pair {H : Hp} {a b : Addr} {x1 x2 y1 y2 : V} {n : Nat} (h1 : H a = some (.lst [x1, x2])) (h2 : H b = some (.lst [y1, y2])) (e1 : Sm n x1 y1 H) (e2 : Sm n x2 y2 H) : Sm (n + 1) (.ref a) (.ref b) H := by
  refine sm_lst h1 h2 rfl (by show 2 ≤ 1000; decide) fun i x y hx hy => ?_
  match i, hx, hy with
  | 0, hx, hy =>
    cases hx
    cases hy
    exact e1
  | 1, hx, hy =>
    cases hx
    cases hy
    exact e2
  | i + 2, hx, hy => cases hx
abbrev qlam : Str := ("law" : Str) ++ ".<locals>." ++ "<lambda>"
theorem tabs_new {P : Addr} {q : Str} {H : Hp} (h : H P = some (.tbl #[])) : Tabs [(P, q)] H := fun p hp => by
  have e := List.mem_singleton.mp hp
  subst e
  exact ⟨#[], h, True.intro, fun pos cv hc => nomatch hc⟩
theorem free_of {l : List Str} (h : (l.all fun z => nmB z && (!pool.contains z && !(z == "start"))) = true) {m : Md} (ok : MdOk m) {z : Str} (hz : z ∈ l) : Nm z ∧ ¬ z ∈ m.pts := by
  have e := List.all_eq_true.mp h z hz
  simp only [Bool.and_eq_true, Bool.not_eq_true', beq_eq_false_iff_ne, ne_eq] at e
  obtain ⟨e1, e2, e3⟩ := e
  refine ⟨nmB_ok.mp e1, fun hm => ?_⟩
  rcases List.mem_cons.mp hm with hm | hm
  · exact e3 hm
  · have := List.contains_iff_mem.mpr (ok.pool z hm)
    rw [e2] at this
    cases this
theorem MdX.addO {H : Hp} {d o w b : Addr} {m : Md} {z : Str} (M : MdX H d o w b m) : MdX (upd H o (.lst (m.own.map V.str ++ [.str z]))) d o w b (m.addM z) := by
  obtain ⟨ws, h1, h2⟩ := M.wd
  obtain ⟨bs, h3, h4⟩ := M.bd
  have k := kt_lst (ys := m.own.map V.str ++ [.str z]) M.own
  refine ⟨by rw [upd_ne (ne_of M.dk M.own (by intro z; cases z))]; exact M.dk, ?_, ⟨ws, by rw [upd_ne M.now.symm]; exact h1, h2.keep k⟩, ⟨bs, by rw [upd_ne M.nob.symm]; exact h3, h4.keep k⟩, M.now, M.nob, M.nwb⟩
  rw [upd_same]
  show _ = some (HO.lst ((m.own ++ [z]).map V.str))
  rw [List.map_append]
  rfl
theorem gone_out {m : Md} (ok : MdOk m) : ¬ ("gone" : Str) ∈ m.pts := fun h => by
  rcases List.mem_cons.mp h with h | h
  · exact absurd h (by decide +kernel)
  · exact absurd (ok.pool _ h) (by decide +kernel)
theorem none_out {m : Md} (ok : MdOk m) : ¬ ("" : Str) ∈ m.pts := fun h => absurd (pts_nm ok h) fun n => absurd (nmB_ok.mpr n) (by decide +kernel)
theorem mk_putWd {l : Int} {o w b w2 : Addr} : putK (mk l o w b) kWd (.ref w2) = mk l o w2 b := by
  have n6 : ¬ kBd = kWd := fun e => k6 e.symm
  unfold putK mk
  rw [if_pos (by rw [List.any_cons, List.any_cons, List.any_cons, decide_eq_true (rfl : kWd = kWd)]; simp)]
  simp only [List.map_cons, List.map_nil, if_neg k2, if_neg k4, if_neg n6, if_true]
/-- what stands all along: the flow, the model, the web, the table of the law's code -/
structure All (K : PySem.W.Frag) (f c d p Pt : Addr) (m : Md) (H : Hp) : Prop where
  fl : Flow H f c
  md : MdAt H d m
  web : WebAt (CW K) H p m
  tab : Tabs [(Pt, qlam)] H
theorem All.same {K : PySem.W.Frag} {f c d p Pt : Addr} {m : Md} {H H' : Hp} (A : All K f c d p Pt m H) (s : Same H H') : All K f c d p Pt m H' := ⟨A.fl.same s, A.md.same s, A.web.same s, tabs_same A.tab s⟩
theorem All.ext {K : PySem.W.Frag} {f c d p Pt : Addr} {m : Md} {H H' : Hp} (A : All K f c d p Pt m H) (e : ExtN H H') (t : Tabs [(Pt, qlam)] H') : All K f c d p Pt m H' := ⟨A.fl.ext e, A.md.ext e, A.web.ext e, t⟩
theorem All.sb {K : PySem.W.Frag} {f c d p Pt : Addr} {m : Md} {H H' : Hp} (A : All K f c d p Pt m H) (s : Sb f H H') (F : Flow H' f c) : All K f c d p Pt m H' := by
  obtain ⟨xs, hf⟩ := A.fl.lst
  exact ⟨F, A.md.sb A.fl s, A.web.sb s hf, tabs_sb A.tab s hf⟩
theorem kt_ext {H H' : Hp} (e : ExtN H H') : Kt H H' := fun b xs h => e _ _ h fun ps z => by cases z
theorem nm_ok {z : Str} (h : Nm z) : PyData.canLay0 (.str z) = true := by
  show z.cps.all (fun c => decide (c < 0x110000)) = true
  rw [Array.all_eq_true']
  intro c hc
  have h1 := h.2.2 c (Array.mem_toList_iff.mpr hc)
  have h2 : (letters.cps.toList.all fun c => decide (c < 0x110000)) = true := by decide +kernel
  exact List.all_eq_true.mp h2 c h1
end Tw

set_option maxHeartbeats 4000000
namespace Tw
open PySem PySem.Spec PyProof.Rows L2
section
variable {P : Program} {w : World} {K : PySem.W.Frag} {mg : Str → Option Value} {base : Heap}
def sp_copy : Sp := fun vs H Q _ => ∃ (d : Addr) (m : Md), vs = [.ref d] ∧ MdAt H d m ∧ ∀ (d' o' w' b' : Addr) (H' : Hp), Same H H' → H d' = none → H o' = none → H w' = none → H b' = none → MdX H' d' o' w' b' m → Q (.ref d') H'
theorem cal__law_copy (T : Tp K mg) : Cal P w K mg base 2 "_law_copy" sp_copy := by
  obtain ⟨fd, F⟩ := f__law_copy T
  refine cal_of F (g__law_copy T) (b__law_copy F) sc__law_copy (fun vs H Q E h => ?_) (fun cdv A outer s H vs Q E hr h => ?_)
  · obtain ⟨d, m, rfl, _⟩ := h
    rfl
  · obtain ⟨d, m, rfl, M, q⟩ := h
    have hu := hu_of hr
    obtain ⟨o, u, b, ws, bs, h1, h2, h3, h4, h5, h6, h7⟩ := M.ex
    refine ⟨_, (pss_one (ps_ret (pe_disp (pps_cons pe_str (pe_dget hu (pv 0) pe_str (fun _ _ => rfl)) (pps_cons pe_str (pe_callTy call_list_of (by rfl) (z_list T) bb_list (pa_cons (pe_dget hu (pv 0) pe_str (fun _ _ => rfl)) pa_nil)) (pps_cons pe_str (pe_callTy call_list_of (by rfl) (z_list T) bb_list (pa_cons (pe_dget hu (pv 0) pe_str (fun _ _ => rfl)) pa_nil)) (pps_cons pe_str (pe_callTy call_list_of (by rfl) (z_list T) bb_list (pa_cons (pe_dget hu (pv 0) pe_str (fun _ _ => rfl)) pa_nil)) pps_nil)))) (by rfl) (by rfl) (fun z => by cases z) (by decide)))), ?_⟩
    refine fun p np => ?_
    have s0 := same_upd (o := .dK []) np
    refine ⟨_, rfl, d, _, rfl, mk_by (s0 _ _ h1), _, rfl, d, _, rfl, mk_own (s0 _ _ h1), o, _, rfl, .inl (.inl (.inl (s0 _ _ h2))), fun o' no => ?_⟩
    have s1 := s0.trans (same_upd (o := .lst (m.own.map V.str)) no)
    refine ⟨_, rfl, d, _, rfl, mk_wd (s1 _ _ h1), u, _, rfl, .inl (.inl (.inl (s1 _ _ h3))), fun u' nu => ?_⟩
    have s2 := s1.trans (same_upd (o := .lst ws) nu)
    refine ⟨_, rfl, d, _, rfl, mk_bd (s2 _ _ h1), b, _, rfl, .inl (.inl (.inl (s2 _ _ h5))), fun b' nb => ?_⟩
    have sa := same_upd (o := .lst (m.own.map V.str)) no
    have sb := same_upd (o := .lst ws) nu
    have sc := same_upd (o := .lst bs) nb
    have s3 := s2.trans sc
    have ep := sc _ _ (sb _ _ (sa _ _ (upd_same (H := H) (a := p) (o := .dK []))))
    have eo := sc _ _ (sb _ _ (upd_same (H := upd H p (.dK [])) (a := o') (o := .lst (m.own.map V.str))))
    have eu := sc _ _ (upd_same (H := upd (upd H p (.dK [])) o' (.lst (m.own.map V.str))) (a := u') (o := .lst ws))
    have eb := upd_same (H := upd (upd (upd H p (.dK [])) o' (.lst (m.own.map V.str))) u' (.lst ws)) (a := b') (o := .lst bs)
    have nop : o' ≠ p := (ne_of ep eo (by intro z; cases z)).symm
    have nup : u' ≠ p := (ne_of ep eu (by intro z; cases z)).symm
    have nbp : b' ≠ p := (ne_of ep eb (by intro z; cases z)).symm
    have nou : o' ≠ u' := ne_of_none upd_same nu
    have nob : o' ≠ b' := ne_of_none (sb _ _ upd_same) nb
    have nub : u' ≠ b' := ne_of_none upd_same nb
    refine ⟨ep, [(kBy, .int m.last), (kOwn, .ref o'), (kWd, .ref u'), (kBd, .ref b')], rfl, (by show 4 ≤ 15; decide), ?_⟩
    rw [mk_merge]
    have sF : Same H (upd (upd (upd (upd (upd H p (.dK [])) o' (.lst (m.own.map V.str))) u' (.lst ws)) b' (.lst bs)) p (.dK (mk m.last o' u' b'))) := same_put s3 np
    exact q p o' u' b' _ sF np (s0.free no) (s1.free nu) (s2.free nb) ⟨upd_same, by rw [upd_ne nop]; exact eo, ⟨ws, by rw [upd_ne nup]; exact eu, h4.keep (Kt.of sF)⟩, ⟨bs, by rw [upd_ne nbp]; exact eb, h6.keep (Kt.of sF)⟩, nou, nob, nub⟩
end
end Tw

set_option maxHeartbeats 4000000
namespace Tw
open PySem PySem.Spec PyProof.Rows L2
section
variable {P : Program} {w : World} {K : PySem.W.Frag} {mg : Str → Option Value} {base : Heap}
/-! ### _law_whole -/
def sp_lwhole : Sp := fun vs H Q _ => ∃ (v : V) (lo hi : Int), vs = [v, .int lo, .int hi] ∧ (plK v).isSome = true ∧ Q (.bl (whB lo hi v)) H
theorem cal__law_whole (T : Tp K mg) : Cal P w K mg base 2 "_law_whole" sp_lwhole := by
  obtain ⟨fd, F⟩ := f__law_whole T
  refine cal_of F (g__law_whole T) (b__law_whole F) sc__law_whole (fun vs H Q E h => ?_) (fun cdv A outer s H vs Q E hr h => ?_)
  · obtain ⟨v, lo, hi, rfl, _⟩ := h
    rfl
  · obtain ⟨v, lo, hi, rfl, hk, q⟩ := h
    refine ⟨_, (pss_one (ps_ret (pe_and (pe_callB call_isK (by rfl) (z_isinstance T) bb_isinstance (pa_cons (pv 0) (pa_cons (pe_bltn (v := .ty "int") (by rfl) (z_int T) bb_int rfl) pa_nil))) (pe_and (pe_not (pe_callB call_isK (by rfl) (z_isinstance T) bb_isinstance (pa_cons (pv 0) (pa_cons (pe_bltn (v := .ty "bool") (by rfl) (z_bool T) bb_bool rfl) pa_nil)))) (pe_one (pe_chain op_le op_le (pv 1) (pv 0) (pv 2))))))), ?_⟩
    cases v with
    | non => exact ⟨_, rfl, _, "int", "NoneType", rfl, .base .non, by decide, by decide, _, rfl, iteF q⟩
    | bl b => exact ⟨_, rfl, _, "int", "bool", rfl, .base (.bl _), by decide, by decide, _, rfl, iteT ⟨_, rfl, _, "bool", "bool", rfl, .base (.bl _), by decide, by decide, _, rfl, _, rfl, iteF q⟩⟩
    | str z => exact ⟨_, rfl, _, "int", "str", rfl, .base (.str _), by decide, by decide, _, rfl, iteF q⟩
    | byt b => cases hk
    | flt b => cases hk
    | ref b => cases hk
    | ty b => cases hk
    | int i =>
      refine ⟨_, rfl, _, "int", "int", rfl, .base (.int _), by decide, by decide, _, rfl, iteT ⟨_, rfl, _, "bool", "int", rfl, .base (.int _), by decide, by decide, _, rfl, _, rfl, ?_⟩⟩
      refine iteT ⟨_, rfl, _, rfl, _, _, rfl, rfl, _, rfl, ite2 (fun e => ?_) (fun e => ?_)⟩
      · have e1 : lo ≤ i := of_decide_eq_true e
        refine ⟨_, rfl, _, _, rfl, rfl, ?_⟩
        have e2 : decide (lo ≤ i ∧ i ≤ hi) = decide (i ≤ hi) := by simp [e1]
        have q : Q (.bl (decide (lo ≤ i ∧ i ≤ hi))) H := q
        rw [e2] at q
        exact q
      · have e1 : ¬ lo ≤ i := fun z => e (decide_eq_true z)
        have e2 : decide (lo ≤ i ∧ i ≤ hi) = false := by simp [e1]
        have q : Q (.bl (decide (lo ≤ i ∧ i ≤ hi))) H := q
        rw [e2] at q
        exact q
end
end Tw

set_option maxHeartbeats 4000000
namespace Tw
open PySem PySem.Spec PyProof.Rows L2
section
variable {P : Program} {w : World} {K : PySem.W.Frag} {mg : Str → Option Value} {base : Heap}
/-! ### _law_strange -/
def sp_strange : Sp := fun vs H Q _ => ∃ (f c : Addr) (lo hi : Int), vs = [.ref f, .int lo, .int hi] ∧ Flow H f c ∧ ∀ (v : V) (H' : Hp), (plK v).isSome = true → flatV v = true → whB lo hi v = false → Sb f H H' → Flow H' f c → Q v H'
end
end Tw

set_option maxHeartbeats 4000000
namespace Tw
open PySem PySem.Spec PyProof.Rows L2
/-! what is due of a tie of any plain values (as in TwK04) -/
def okE (v : V) : Bool := decide (v = .non) || whB (-1000) 1000 v
theorem tl_nn : tlV .non .non = [] := by decide
theorem tl_na {b : V} (h : ¬ b = .non) : tlV .non b = [b] := by
  unfold tlV
  rw [List.filter_cons, List.filter_cons, if_neg (by simp), if_pos (by simp [h])]
  rfl
theorem tl_an {a : V} (h : ¬ a = .non) : tlV a .non = [a] := by
  unfold tlV
  rw [List.filter_cons, List.filter_cons, if_pos (by simp [h]), if_neg (by simp)]
  rfl
theorem tl_ab {a b : V} (h : ¬ a = .non) (h' : ¬ b = .non) : tlV a b = [a, b] := by
  unfold tlV
  rw [List.filter_cons, List.filter_cons, if_pos (by simp [h]), if_pos (by simp [h'])]
  rfl
/-- a bound that is not good spoils the tie -/
theorem bd_bad {a b : V} (h : okE a = false ∨ okE b = false) : tieBnd a b = false := by
  have key : ∀ v : V, okE v = false → ¬ v = .non ∧ whB (-1000) 1000 v = false := fun v hv => by
    unfold okE at hv
    obtain ⟨h1, h2⟩ := Bool.or_eq_false_iff.mp hv
    exact ⟨of_decide_eq_false h1, h2⟩
  unfold tieBnd
  rw [Bool.and_eq_false_iff]
  left
  rcases h with h | h
  · obtain ⟨h1, h2⟩ := key _ h
    by_cases hb : b = .non
    · rw [hb, tl_an h1, List.all_cons, h2, Bool.false_and]
    · rw [tl_ab h1 hb, List.all_cons, h2, Bool.false_and]
  · obtain ⟨h1, h2⟩ := key _ h
    by_cases ha : a = .non
    · rw [ha, tl_na h1, List.all_cons, h2, Bool.false_and]
    · rw [tl_ab ha h1, List.all_cons, List.all_cons, h2, Bool.false_and, Bool.and_false]
theorem bd_none : tieBnd .non .non = false := by decide
theorem ok_wh {v : V} (h : okE v = true) (hn : ¬ v = .non) : whB (-1000) 1000 v = true := by
  unfold okE at h
  rw [decide_eq_false hn, Bool.false_or] at h
  exact h
theorem bd_one {a b : V} (h1 : okE a = true) (h2 : okE b = true) (h : (a = .non ∧ ¬ b = .non) ∨ (¬ a = .non ∧ b = .non)) : tieBnd a b = true := by
  unfold tieBnd
  rcases h with ⟨ha, hb⟩ | ⟨ha, hb⟩
  · obtain ⟨i, rfl, _⟩ := wh_int (ok_wh h2 hb)
    rw [ha, tl_na hb, List.all_cons, ok_wh h2 hb]
    show decide (i ≤ i) = true
    exact decide_eq_true (Int.le_refl i)
  · obtain ⟨i, rfl, _⟩ := wh_int (ok_wh h1 ha)
    rw [hb, tl_an ha, List.all_cons, ok_wh h1 ha]
    show decide (i ≤ i) = true
    exact decide_eq_true (Int.le_refl i)
theorem bd_two {i j : Int} (h1 : okE (.int i) = true) (h2 : okE (.int j) = true) : tieBnd (.int i) (.int j) = decide (i ≤ j) := by
  have ha : ¬ V.int i = .non := fun z => by cases z
  have hb : ¬ V.int j = .non := fun z => by cases z
  unfold tieBnd
  rw [tl_ab ha hb, List.all_cons, List.all_cons, ok_wh h1 ha, ok_wh h2 hb]
  rfl
theorem oV_inj {x y : Option Int} (h : oV x = oV y) : x = y := by
  cases x <;> cases y <;> first | rfl | (cases h; rfl) | cases h
theorem bd_of {a b : V} {bo to : Option Int} (ea : a = oV bo) (eb : b = oV to) (B : BOk bo to) : tieBnd a b = true := by
  subst ea eb
  have ok1 : ∀ (o : Option Int), (∀ x, o = some x → -1000 ≤ x ∧ x ≤ 1000) → okE (oV o) = true := fun o h => by
    cases o with
    | none => rfl
    | some x =>
      unfold okE
      rw [show whB (-1000) 1000 (oV (some x)) = true from decide_eq_true (h x rfl), Bool.or_true]
  have h1 := ok1 bo B.lo
  have h2 := ok1 to B.hi
  cases bo with
  | none =>
    cases to with
    | none => exact absurd ⟨rfl, rfl⟩ B.one
    | some y => exact bd_one h1 h2 (.inl ⟨rfl, fun z => (by cases z)⟩)
  | some x =>
    cases to with
    | none => exact bd_one h1 h2 (.inr ⟨fun z => (by cases z), rfl⟩)
    | some y =>
      show tieBnd (.int x) (.int y) = true
      rw [bd_two h1 h2]
      exact decide_eq_true (B.le x y rfl rfl)
def DueTi (m : Md) (y z : Str) (a b due : V) (H : Hp) : Prop := (¬ y ∈ m.pts ∧ ∃ t, due = .ref t ∧ H t = some (.tup [.str "NoPoint", .str y])) ∨ (y ∈ m.pts ∧ ¬ z ∈ m.pts ∧ ∃ t, due = .ref t ∧ H t = some (.tup [.str "NoPoint", .str z])) ∨
  (y ∈ m.pts ∧ z ∈ m.pts ∧ (y = z ∨ tieBnd a b = false) ∧ ∃ t, due = .ref t ∧ H t = some (.tup [.str "BadTie", a, b])) ∨ (y ∈ m.pts ∧ z ∈ m.pts ∧ ¬ y = z ∧ tieBnd a b = true ∧ due = .non)
theorem DueTi.keep {m : Md} {y z : Str} {a b due : V} {H H' : Hp} (h : DueTi m y z a b due H) (k : Kt H H') : DueTi m y z a b due H' := by
  rcases h with ⟨h, t, e, ht⟩ | ⟨h1, h2, t, e, ht⟩ | ⟨h1, h2, h3, t, e, ht⟩ | h
  · exact .inl ⟨h, t, e, k _ _ ht⟩
  · exact .inr (.inl ⟨h1, h2, t, e, k _ _ ht⟩)
  · exact .inr (.inr (.inl ⟨h1, h2, h3, t, e, k _ _ ht⟩))
  · exact .inr (.inr (.inr h))
section
variable {P : Program} {w : World} {K : PySem.W.Frag} {mg : Str → Option Value} {base : Heap}
def sp_tdue : Sp := fun vs H Q _ => ∃ (d : Addr) (m : Md) (y z : Str) (a b : V), vs = [.ref d, .str y, .str z, a, b] ∧ MdAt H d m ∧ m.own.length ≤ 10 ∧ m.wd.length ≤ 4 ∧ (plK a).isSome = true ∧ (plK b).isSome = true ∧ ∀ (due : V) (H' : Hp), Same H H' → DueTi m y z a b due H' → Q due H'
theorem cal__law_tie_due (T : Tp K mg) : Cal P w K mg base 3 "_law_tie_due" sp_tdue := by
  obtain ⟨fd, F⟩ := f__law_tie_due T
  refine cal_of F (g__law_tie_due T) (b__law_tie_due F) sc__law_tie_due (fun vs H Q E h => ?_) (fun cdv A outer s H vs Q E hr h => ?_)
  · obtain ⟨d, m, y, z, a, b, rfl, _⟩ := h
    rfl
  · obtain ⟨d, m, y, z, a, b, rfl, M, l1, l2, pa, pb, q⟩ := h
    refine ⟨_, (pss_cons (ps_for PassesOwn.never rfl (pi_list (pe_lst (pa_cons (pv 1) (pa_cons (pv 2) pa_nil)))) (pg_name (i := 5) sc__law_tie_due.nd rfl (.inl rfl))
        (pss_one (ps_if (pt_cmpR op_notIn_seq (pv 5) (C8.pe_c (cal__law_points T) hr (by decide) rfl (pa_cons (pv 0) pa_nil)) (by rfl)) (pss_one (ps_ret (pe_tup (pa_cons pe_str (pa_cons (pv 5) pa_nil))))) pss_nil)))
      (pss_cons (ps_set (i := 6) sc__law_tie_due.nd rfl (.inl rfl) (pe_cmpR op_ne (pv 1) (pv 2) (nomark _)))
      (pss_cons (ps_for PassesOwn.never rfl (pi_list (pe_lst (pa_cons (pv 3) (pa_cons (pv 4) pa_nil)))) (pg_name (i := 7) sc__law_tie_due.nd rfl (.inl rfl))
        (pss_one (ps_set (i := 6) sc__law_tie_due.nd rfl (.inl rfl) (pe_and (pv 6) (pe_one (pe_or (pe_cmpR op_isN (pv 7) pe_non (nomark _)) (pe_one (C8.pe_c (cal__law_whole T) hr (by decide) rfl (pa_cons (pv 7) (pa_cons (pe_un un_neg pe_int) (pa_cons pe_int pa_nil)))))))))))
      (pss_cons (ps_if (PW.pt (pw_or (pt_not (pt_val (pv 6))) (pw_or1 (PW.pt (pw_and (pt_cmpR op_isN (pv 3) pe_non (nomark _)) (pw_and1 (pt_cmpR op_isN (pv 4) pe_non (nomark _)))))))) (pss_one (ps_ret (pe_tup (pa_cons pe_str (pa_cons (pv 3) (pa_cons (pv 4) pa_nil)))))) pss_nil)
      (pss_cons (ps_if (PW.pt (pw_and (pt_cmpR op_notN (pv 3) pe_non (nomark _)) (pw_and (pt_cmpR op_notN (pv 4) pe_non (nomark _)) (pw_and1 (pt_cmpR op_gt (pv 3) (pv 4) (nomark _)))))) (pss_one (ps_ret (pe_tup (pa_cons pe_str (pa_cons (pv 3) (pa_cons (pv 4) pa_nil)))))) pss_nil)
      (pss_one (ps_ret pe_non))))))), ?_⟩
    refine ⟨_, rfl, _, rfl, (by show 2 ≤ sizeLine; decide), fun L nL => ?_⟩
    have s0 := same_upd (o := .lst [.str y, .str z]) nL
    refine ⟨L, rfl, ⟨_, .inl (.inl upd_same)⟩, for_list (K := K) (a := L) (xs := ([y, z] : List Str).map V.str) (fun i σ H' => ∃ y5 : Option V, σ = [some (.ref d), some (.str y), some (.str z), some a, some b, y5, none, none] ∧ Same (upd H L (.lst [.str y, .str z])) H' ∧ ∀ x ∈ ([y, z] : List Str).take i, x ∈ m.pts) ⟨none, rfl, Same.refl _, fun x hx => (by cases hx)⟩ (fun i σ H' _ ⟨_, _, s, _⟩ => .inl (.inl (s _ _ upd_same))) ?_ ?_⟩
    · rintro i v σ H1 hv ⟨y5, rfl, s1, hp⟩
      rw [List.getElem?_map] at hv
      cases ez : ([y, z] : List Str)[i]? with
      | none =>
        rw [ez] at hv
        cases hv
      | some x =>
        rw [ez] at hv
        cases hv
        have sA := s0.trans s1
        refine ⟨_, rfl, _, rfl, d, m, rfl, M.same sA, by omega, by omega, fun l H2 s2 nl hl => ⟨l, _, rfl, .inl (.inl (.inl hl)), rfl, flat_strs _, _, rfl, ?_⟩⟩
        show if (!inV (.str x) (m.pts.map V.str)) = true then _ else _
        rw [in_strs]
        by_cases hx : x ∈ m.pts
        · rw [decide_eq_true hx]
          refine iteF ⟨_, rfl, s1.trans s2, fun x' hx' => ?_⟩
          rw [List.take_add_one, ez] at hx'
          rcases List.mem_append.mp hx' with h | h
          · exact hp x' h
          · rw [List.mem_singleton.mp h]
            exact hx
        · rw [decide_eq_false hx]
          refine iteT ⟨_, rfl, (by show 2 ≤ sizeLine; decide), fun t nt => ?_⟩
          have s3 := same_upd (o := .tup [.str "NoPoint", .str x]) nt
          refine q _ _ ((sA.trans s2).trans s3) ?_
          match i, ez with
          | 0, ez =>
            cases ez
            exact .inl ⟨hx, t, rfl, upd_same⟩
          | 1, ez =>
            cases ez
            exact .inr (.inl ⟨hp y List.mem_cons_self, hx, t, rfl, upd_same⟩)
          | i + 2, ez => cases ez
    · rintro σ H1 ⟨y5, rfl, s1, hp⟩
      have hy : y ∈ m.pts := hp y List.mem_cons_self
      have hz : z ∈ m.pts := hp z (List.mem_cons_of_mem _ List.mem_cons_self)
      have sA := s0.trans s1
      refine ⟨_, rfl, _, rfl, rfl, ?_⟩
      have en : (!decide (V.str y = V.str z)) = !decide (y = z) := by simp
      refine ⟨_, rfl, _, rfl, (by show 2 ≤ sizeLine; decide), fun G nG => ?_⟩
      have s2 := same_upd (o := .lst [a, b]) nG
      refine ⟨G, rfl, ⟨_, .inl (.inl upd_same)⟩, for_list (K := K) (a := G) (xs := [a, b]) (fun i σ H' => ∃ y7 : Option V, σ = [some (.ref d), some (.str y), some (.str z), some a, some b, y5, some (.bl ((!decide (y = z)) && (([a, b] : List V).take i).all okE)), y7] ∧ Same (upd H1 G (.lst [a, b])) H') ⟨none, by rw [en]; simp, Same.refl _⟩ (fun i σ H' _ ⟨_, _, s⟩ => .inl (.inl (s _ _ upd_same))) ?_ ?_⟩
      · rintro i v σ H2 hv ⟨y7, rfl, s3⟩
        have hpl : (plK v).isSome = true := by
          have hm := List.mem_of_getElem? hv
          have hm : v = a ∨ v = b := by simpa using hm
          rcases hm with h | h <;> rw [h] <;> assumption
        have et : (([a, b] : List V).take (i + 1)).all okE = ((([a, b] : List V).take i).all okE && okE v) := by
          rw [List.take_add_one, hv, List.all_append]
          simp
        refine ⟨_, rfl, _, rfl, ?_⟩
        cases hg : (!decide (y = z)) && (([a, b] : List V).take i).all okE with
        | false =>
          refine iteF ⟨some v, ?_, s3⟩
          rw [et, ← Bool.and_assoc, hg, Bool.false_and]
          rfl
        | true =>
          have hsc : scal v .non = true := by
            cases v <;> first | rfl | cases hpl
          refine iteT ⟨_, rfl, rfl, _, rfl, ?_⟩
          cases hn : decide (v = V.non) with
          | true =>
            refine iteT ⟨some v, ?_, s3⟩
            rw [et, ← Bool.and_assoc, hg, Bool.true_and]
            unfold okE
            rw [hn]
            rfl
          | false =>
            refine iteF ⟨_, rfl, 1000, rfl, v, -1000, 1000, rfl, hpl, some v, ?_, s3⟩
            rw [et, ← Bool.and_assoc, hg, Bool.true_and]
            unfold okE
            rw [hn]
            rfl
      · rintro σ H2 ⟨y7, rfl, s3⟩
        have sB := (sA.trans s2).trans s3
        have bad : (y = z ∨ tieBnd a b = false) → ∀ t, H2 t = none → Q (.ref t) (upd H2 t (.tup [.str "BadTie", a, b])) := fun h t nt => q _ _ (sB.trans (same_upd nt)) (.inr (.inr (.inl ⟨hy, hz, h, t, rfl, upd_same⟩)))
        have good : ¬ y = z → tieBnd a b = true → Q .non H2 := fun h1 h2 => q _ _ sB (.inr (.inr (.inr ⟨hy, hz, h1, h2, rfl⟩)))
        refine ⟨_, rfl, _, rfl, ?_⟩
        have e2 : (([a, b] : List V).take ([a, b] : List V).length).all okE = (okE a && okE b) := by simp
        rw [e2]
        by_cases hyz : y = z
        · rw [decide_eq_true hyz]
          exact iteT ⟨_, rfl, _, rfl, (by show 3 ≤ sizeLine; decide), bad (.inl hyz)⟩
        · rw [decide_eq_false hyz]
          cases ha : okE a with
          | false => exact iteT ⟨_, rfl, _, rfl, (by show 3 ≤ sizeLine; decide), bad (.inr (bd_bad (.inl ha)))⟩
          | true =>
            cases hb : okE b with
            | false => exact iteT ⟨_, rfl, _, rfl, (by show 3 ≤ sizeLine; decide), bad (.inr (bd_bad (.inr hb)))⟩
            | true =>
              refine iteF ⟨_, rfl, rfl, _, rfl, ?_⟩
              by_cases na : a = .non
              · rw [decide_eq_true na]
                refine iteT ⟨_, rfl, rfl, _, rfl, ?_⟩
                by_cases nb : b = .non
                · rw [decide_eq_true nb]
                  refine iteT ⟨_, rfl, _, rfl, (by show 3 ≤ sizeLine; decide), bad (.inr ?_)⟩
                  rw [na, nb]
                  exact bd_none
                · rw [decide_eq_false nb]
                  refine iteF ⟨_, rfl, rfl, _, rfl, ?_⟩
                  rw [decide_eq_true na]
                  exact iteF (iteF (good hyz (bd_one ha hb (.inl ⟨na, nb⟩))))
              · rw [decide_eq_false na]
                refine iteF (iteF ⟨_, rfl, rfl, _, rfl, ?_⟩)
                rw [decide_eq_false na]
                refine iteT ⟨_, rfl, rfl, _, rfl, ?_⟩
                by_cases nb : b = .non
                · rw [decide_eq_true nb]
                  exact iteF (iteF (good hyz (bd_one ha hb (.inr ⟨na, nb⟩))))
                · rw [decide_eq_false nb]
                  obtain ⟨i, rfl, _, _⟩ := wh_int (ok_wh ha na)
                  obtain ⟨j, rfl, _, _⟩ := wh_int (ok_wh hb nb)
                  refine iteT ⟨_, rfl, _, rfl, i, j, rfl, rfl, _, rfl, ?_⟩
                  have e3 := bd_two ha hb
                  by_cases hij : i ≤ j
                  · rw [decide_eq_false (show ¬ j < i by omega)]
                    exact iteF (good hyz (by rw [e3, decide_eq_true hij]))
                  · rw [decide_eq_true (show j < i by omega)]
                    exact iteT ⟨_, rfl, _, rfl, (by show 3 ≤ sizeLine; decide), bad (.inr (by rw [e3, decide_eq_false hij]))⟩
/-! ### the law -/
end
end Tw

set_option maxHeartbeats 4000000
/-! for x in D, D a dict of the top whose keys are texts -/
namespace Tw
open PySem PySem.Spec PyProof.Rows L2
theorem kd_all {K : PySem.W.Frag} {w : World} {a : Addr} {ks : List Str} (h : He.dicW K a = some (He.keysIn w.params ks)) : ∃ es n, KDict K w a es n ∧ es.toList.map He.keyOf = He.keysIn w.params ks := by
  obtain ⟨es, n, D⟩ := He.dicW_ok h
  refine ⟨es, n, D, ?_⟩
  unfold He.dicW at h
  rw [D.at_] at h
  simpa [D.low] using h
theorem kd_key {P : Params} {ks : List Str} {i : Nat} {z : Str} : ∀ {l : List DictEntry}, l.map He.keyOf = He.keysIn P ks → ks[i]? = some z → ∃ en t, l[i]? = some en ∧ en.key = .str z t := fun {l} h e => by
  have h1 : (l.map He.keyOf)[i]? = some (some (z, PyData.keyHash P z)) := by
    rw [h]
    unfold He.keysIn
    rw [List.getElem?_map, e]
    rfl
  rw [List.getElem?_map] at h1
  obtain ⟨en, h2, h3⟩ := Option.map_eq_some_iff.1 h1
  unfold He.keyOf at h3
  split at h3
  · rename_i x t q
    have := Option.some.inj h3
    have hx : x = z := congrArg Prod.fst this
    exact ⟨en, t, h2, by rw [q, hx]⟩
  · cases h3
/-- the keys, one by one; the dict never changes -/
def Itc (ks : List Str) : It := ⟨fun i _ => i < ks.length, fun i H x H' => H' = H ∧ ∃ z, ks[i]? = some z ∧ x = .str z, fun i _ => ks.length ≤ i⟩
theorem keyiter_plain {h : Heap} {it d : Addr} {i n ep : Nat} (st : h.IsKeyIter it d i n ep) : ∃ o, h.get? it = some o ∧ ∀ v, o.data ≠ .cell v := by
  obtain ⟨oi, e, _, dd⟩ := st
  exact ⟨oi, e, fun v z => by rw [dd] at z; cases z⟩
section
variable {X : Cx} {tg e : Expr} {d : Addr} {es : Array DictEntry} {n : Nat} {ks : List Str}
theorem pi_kd {td : TE} (D : KDict X.K X.w d es n) (hks : es.toList.map He.keyOf = He.keysIn X.w.params ks) (he : PE X e td) : PI X tg e (fun σ H R => td σ H fun x H1 => x = .ref d ∧ R (Itc ks) H1) := by
  have len : es.size = ks.length := by
    have := congrArg List.length hks
    unfold He.keysIn at this
    rw [List.length_map, List.length_map, Array.length_toList] at this
    exact this
  refine ⟨fun pins s σ H R I h => thn (he.run pins s σ H _ I h) fun u s1 ⟨x, H1, I1, rx, ex, q⟩ => ?_⟩
  subst ex
  obtain rfl : u = Value.ref d := rx
  refine iter_keys D.low (I1.kIn d _ D.at_) ⟨rfl, rfl, rfl⟩ rfl (pi_one (tk := s1.toks) I1 _ (tn := fun i h => h.IsKeyIter s1.heap.objs.size d i es.size n) ?_ ⟨_, Heap.get?_push_size _ rfl, rfl, rfl⟩ q)
  have one : ∀ b, b ∈ [s1.heap.objs.size] → b = s1.heap.objs.size := fun b hb => by simpa using hb
  refine ⟨List.mem_cons_self, fun i h st b hb => one b hb ▸ keyiter_plain st, fun i h h' st k => st.at fun oi e => k _ List.mem_cons_self oi e, ?_, ?_, fun A i s Q E st h => wpAny_pyIter_keyiter st h⟩
  · intro Y hP hw hK hc i pins s σ H E I hf st hg
    obtain ⟨f0, f1, f2, f3, f4, f5⟩ := hf _ List.mem_cons_self
    obtain ⟨en, t, h1, h2⟩ := kd_key (z := ks[i]) hks (List.getElem?_eq_getElem hg)
    have at_ := I.kIn d _ (by rw [hK]; exact D.at_)
    refine next_key_item st at_ rfl rfl (by rw [← Array.getElem?_toList]; exact h1) fun h' st' sb => ?_
    have I1 := I.turned (t' := s.toks) (h' := h') (fun b ob hb e => (sb.2 b hb).trans e) f0 f1 f3 f4 f5
    obtain ⟨oi, e, c, dd⟩ := id st'
    exact ⟨en.key, rfl, go_of (s := { s with heap := h' }) e c dd (by decide) ⟨.str ks[i], H, I1, ⟨t, h2⟩, ⟨rfl, _, List.getElem?_eq_getElem hg, rfl⟩, st', fun b hb => (hf b hb).1⟩⟩
  · intro Y hP hw hK hc i pins s σ H E I hf st hg
    obtain ⟨f0, f1, f2, f3, f4, f5⟩ := hf _ List.mem_cons_self
    have at_ := I.kIn d _ (by rw [hK]; exact D.at_)
    exact next_key_end (I.ok.hd hc) st at_ rfl rfl (by rw [len]; exact hg) fun h' eb => ⟨rfl, I.turned (t' := s.toks) (fun b ob hb e => eb b ob hb e) f0 f1 f3 f4 f5⟩
/-- a loop over such keys -/
theorem for_kd {g : TG} {tb : TS} {D : Ends} {σ : L2.St} {H : Hp} (Pv : Nat → L2.St → Hp → Prop) (h0 : Pv 0 σ H)
    (hs : ∀ i z σ H, ks[i]? = some z → Pv i σ H → g (.str z) σ H fun σ2 H2 => tb { D with nx := Pv (i + 1), ct := Pv (i + 1), bk := D.nx } σ2 H2) (hd : ∀ σ H, Pv ks.length σ H → D.nx σ H) :
    ∃ W : Nat → Nat → L2.St → Hp → Prop, (∃ m, W 0 m σ H) ∧ ∀ i m σ H, W i m σ H →
      ((Itc ks).stop i H ∧ D.nx σ H) ∨ ((Itc ks).go i H ∧ ∃ N : L2.St → Hp → Prop, (∀ σ' H', N σ' H' → ∃ m', m' < m ∧ W (i + 1) m' σ' H') ∧ ∀ x H', (Itc ks).yld i H x H' → g x σ H' fun σ2 H2 => tb { D with nx := N, ct := N, bk := D.nx } σ2 H2) := by
  refine ⟨fun i m σ H => i + m = ks.length ∧ Pv i σ H, ⟨ks.length, Nat.zero_add _, h0⟩, fun i m σ H ⟨hm, p⟩ => ?_⟩
  cases m with
  | zero =>
    have e : i = ks.length := hm
    exact .inl ⟨Nat.le_of_eq e.symm, hd σ H (e ▸ p)⟩
  | succ m =>
    refine .inr ⟨by show i < ks.length; omega, Pv (i + 1), fun σ' H' p' => ⟨m, Nat.lt_succ_self m, by omega, p'⟩, fun x H' ⟨eH, z, ez, ex⟩ => ?_⟩
    rw [eH, ex]
    exact hs i z σ H ez p
end
end Tw

set_option maxHeartbeats 4000000
namespace Tw
open PySem PySem.Spec PyProof.Rows L2
/-! deeds.py: what is done to a web -/
inductive Dd
  | las (l : Int)
  | mom (z : Str)
  | span (x : Wd)
  | tie (x : Bd)
  | unt (i : Int)
  | wo (z : Str)
def Dd.word : Dd → Str
  | .las _ => "by"
  | .mom _ => "moment"
  | .span _ => "span"
  | .tie _ => "tie"
  | .unt _ => "untie"
  | .wo _ => "without"
def Dd.rest : Dd → List V
  | .las l => [.int l]
  | .mom z => [.str z]
  | .span x => x.row
  | .tie x => x.row
  | .unt i => [.int i]
  | .wo z => [.str z]
def Dd.row (d : Dd) : List V := .str d.word :: d.rest
/-- its names are not endless -/
def Dd.Fine : Dd → Prop
  | .mom z => z.length ≤ 1000
  | .span x => x.en.length ≤ 1000
  | _ => True
/-- a refusal: the class, and what it tells -/
abbrev Rf := Str × List (Str × V)
def rf1 (c f : Str) (v : V) : Rf := (c, [(f, v), (("word" : Str), .str c)])
def rf2 (c f g : Str) (v u : V) : Rf := (c, [(g, u), (f, v), (("word" : Str), .str c)])
/-- what is refused of a deed, in its order -/
def Dd.no (m : Md) : Dd → Option Rf
  | .las l => if whB 1 1000 (.int l) = true then none else some (rf1 "BadBy" "by" (.int l))
  | .mom z => if nmB z = false then some (rf1 "BadName" "name" (.str z)) else if z ∈ m.pts then some (rf1 "Taken" "name" (.str z)) else if m.own.length < 10 then none else some (rf1 "Full" "most" (.int 10))
  | .span x => if nmB x.en = false then some (rf1 "BadName" "name" (.str x.en)) else if x.en ∈ m.pts then some (rf1 "Taken" "name" (.str x.en)) else if ¬ x.bg ∈ ("start" : Str) :: m.own then some (rf1 "NoMoment" "name" (.str x.bg))
    else if lenB (.int x.lo) (.int x.hi) = false then some (rf2 "BadLength" "low" "high" (.int x.lo) (.int x.hi)) else if lateB (oV x.la) = false then some (rf1 "BadLate" "late" (oV x.la)) else if m.wd.length < 4 then none else some (rf1 "Full" "most" (.int 4))
  | .tie x => if ¬ x.one ∈ m.pts then some (rf1 "NoPoint" "name" (.str x.one)) else if ¬ x.oth ∈ m.pts then some (rf1 "NoPoint" "name" (.str x.oth)) else if x.one = x.oth ∨ tieBnd (oV x.bot) (oV x.top) = false then some (rf2 "BadTie" "least" "most" (oV x.bot) (oV x.top))
    else if m.bd.length < 40 then none else some (rf1 "Full" "most" (.int 40))
  | .unt i => if whB 0 ((m.bd.length : Int) - 1) (.int i) = true then none else some (rf1 "NoTie" "at" (.int i))
  | .wo z => if ¬ z ∈ m.pts ∨ z = "start" then some (rf1 "NoPoint" "name" (.str z)) else if usedB m z = true then some (rf1 "Used" "name" (.str z)) else none
/-- the web behind it -/
def Dd.did (m : Md) : Dd → Md
  | .las l => m.wby l
  | .mom z => m.addM z
  | .span x => m.addS x
  | .tie x => m.addT x
  | .unt i => m.unt i.toNat
  | .wo z => m.drp z
theorem nm_no {z : Str} (n : ¬ Nm z) : nmB z = false := Bool.eq_false_iff.2 fun h => n (nmB_ok.1 h)
section
variable {P : Program} {w : World} {K : PySem.W.Frag} {mg : Str → Option Value} {base : Heap}
theorem mgx_Web_with_tie_least_most (T : Tp K mg) : MetG P w K mg base (L2.CX P w) 6 (CW K) "with_tie" (sp_tieX K) 3 ["least", "most"] (fun us ws => us ++ ws) := by
  obtain ⟨fd, F⟩ := f_Web_with_tie T
  exact ⟨_, fd, _, _, cl_Web T, me_Web_with_tie T, fnx_with_tie T F, kbn_of F fun kV doc pm an cdv ct us ws h1 h2 => match us, ws, h1, h2 with
    | [_, _, _], [_, _], _, _ => rfl⟩
/-- with_by, granted or refused -/
def sp_wbyB (K : PySem.W.Frag) : Sp := fun vs H Q E => ∃ (p : Addr) (m : Md) (l : Int), vs = [.ref p, .int l] ∧ WebAt (CW K) H p m ∧ (whB 1 1000 (.int l) = false → Out H E (He.ga K "BadBy") "BadBy" "by" (.int l)) ∧ (whB 1 1000 (.int l) = true → ∀ (q : Addr) (H' : Hp), Same H H' → H q = none → WebAt (CW K) H' q (m.wby l) → Q (.ref q) H')
theorem metx_wbyB (T : Tp K mg) : MetX P w K mg base 8 (CW K) "with_by" (sp_wbyB K) := by
  obtain ⟨fd, F⟩ := f_Web_with_by T
  refine metx_of F (cl_Web T) (me_Web_with_by T) (b_Web_with_by F) sc_Web_with_by (fun vs H Q E h => ?_) (fun cdv A outer s H vs Q E hr h tk => ?_)
  · obtain ⟨p, m, l, rfl, _⟩ := h
    rfl
  · obtain ⟨p, m, l, rfl, W, o, q⟩ := h
    obtain ⟨dx, a, b, c, ws, bs, h1, h2, h3, h4, h5, h6⟩ := W.ex
    cases hw : whB 1 1000 (.int l) with
    | true =>
      refine ⟨_, (pss_one (ps_ret (C8.pe_c (cal_woven T) hr (by decide) rfl (pa_cons (pv 1) (pa_cons (pe_fld (pv 0) rfl) (pa_cons (pe_fld (pv 0) rfl) (pa_cons (pe_fld (pv 0) rfl) pa_nil))))))), ?_⟩
      refine ⟨_, rfl, _, rfl, p, CW K, dx, _, _, rfl, h1, cl_Web T, na_moment_rows T, wf_m, _, rfl, p, CW K, dx, _, _, rfl, h1, cl_Web T, na_span_rows T, wf_s, _, rfl, p, CW K, dx, _, _, rfl, h1, cl_Web T, na_tie_rows T, wf_t, ?_⟩
      exact ⟨m.wby l, a, b, c, ws, bs, rfl, h2, h3, h4, h5, h6, W.len, of_decide_eq_true hw, q hw⟩
    | false =>
      refine ⟨_, (pss_one (ps_ret (pe_cx (calx_woven T) tk (fun _ _ _ _ h ↦ h) hr (by decide) rfl (pa_cons (pv 1) (pa_cons (pe_fld (pv 0) rfl) (pa_cons (pe_fld (pv 0) rfl) (pa_cons (pe_fld (pv 0) rfl) pa_nil))))))), ?_⟩
      refine ⟨_, rfl, _, rfl, p, CW K, dx, _, _, rfl, h1, cl_Web T, na_moment_rows T, wf_m, _, rfl, p, CW K, dx, _, _, rfl, h1, cl_Web T, na_span_rows T, wf_s, _, rfl, p, CW K, dx, _, _, rfl, h1, cl_Web T, na_tie_rows T, wf_t, ?_⟩
      exact ⟨_, _, _, _, rfl, rfl, hw, o hw⟩
/-! ### with_deed -/
def sp_wdd (K : PySem.W.Frag) : Sp := fun vs H Q E => ∃ (p t : Addr) (m : Md) (x : Dd), vs = [.ref p, .ref t] ∧ WebAt (CW K) H p m ∧ H t = some (.tup x.row) ∧ x.Fine ∧ (∀ r, x.no m = some r → OutF H E (He.ga K r.1) r.2) ∧ (x.no m = none → ∀ (q : Addr) (H' : Hp), Same H H' → H q = none → WebAt (CW K) H' q (x.did m) → Q (.ref q) H')
theorem calx_with_deed (T : Tp K mg) : CalX P w K mg base 10 "with_deed" (sp_wdd K) := by
  obtain ⟨fd, F⟩ := f_with_deed T
  refine calx_of F (g_with_deed T) (b_with_deed F) sc_with_deed (fun vs H Q E h => ?_) (fun cdv A outer s H vs Q E hr h tk => ?_)
  · obtain ⟨p, t, m, x, rfl, _⟩ := h
    rfl
  · obtain ⟨p, t, m, x, rfl, W, ht, fine, o, q⟩ := h
    refine ⟨_, (pss_cons (ps_asg (pv 1) (pg_head rfl (pgs_cons (pg_name (i := 2) sc_with_deed.nd rfl (.inl rfl)) (pgs_star (pg_name (i := 3) sc_with_deed.nd rfl (.inl rfl))))))
      (pss_cons (ps_if (pt_cmpR op_eq (pv 2) pe_str (nomark _)) (pss_one (ps_ret (pe_mxs (metx_wbyB T) (bm_Web_with_by T) tk (fun _ _ _ _ h => h) hr (by decide) (pv 0) (pv 3)))) pss_nil)
      (pss_cons (ps_if (pt_cmpR op_eq (pv 2) pe_str (nomark _)) (pss_one (ps_ret (pe_mxs (metx_Web_with_moment T) (bm_Web_with_moment T) tk (fun _ _ _ _ h => h) hr (by decide) (pv 0) (pv 3)))) pss_nil)
      (pss_cons (ps_if (pt_cmpR op_eq (pv 2) pe_str (nomark _)) (pss_cons (ps_asg (pv 3) (pg_lst rfl (pgs_cons (pg_name (i := 4) sc_with_deed.nd rfl (.inl rfl)) (pgs_cons (pg_name (i := 5) sc_with_deed.nd rfl (.inl rfl)) (pgs_cons (pg_name (i := 6) sc_with_deed.nd rfl (.inl rfl)) (pgs_cons (pg_name (i := 7) sc_with_deed.nd rfl (.inl rfl)) (pgs_cons (pg_name (i := 8) sc_with_deed.nd rfl (.inl rfl)) pgs_nil)))))))
        (pss_one (ps_ret (pe_mgx (mgx_Web_with_span_late T) tk (fun _ _ _ _ h => h) hr (by decide) (pv 0) (pa_cons (pv 4) (pa_cons (pv 5) (pa_cons (pv 6) (pa_cons (pv 7) pa_nil)))) (pk_cons (pv 8) pk_nil))))) pss_nil)
      (pss_cons (ps_if (pt_cmpR op_eq (pv 2) pe_str (nomark _)) (pss_cons (ps_asg (pv 3) (pg_lst rfl (pgs_cons (pg_name (i := 9) sc_with_deed.nd rfl (.inl rfl)) (pgs_cons (pg_name (i := 10) sc_with_deed.nd rfl (.inl rfl)) (pgs_cons (pg_name (i := 11) sc_with_deed.nd rfl (.inl rfl)) (pgs_cons (pg_name (i := 12) sc_with_deed.nd rfl (.inl rfl)) pgs_nil))))))
        (pss_one (ps_ret (pe_mgx (mgx_Web_with_tie_least_most T) tk (fun _ _ _ _ h => h) hr (by decide) (pv 0) (pa_cons (pv 9) (pa_cons (pv 10) pa_nil)) (pk_cons (pv 11) (pk_cons (pv 12) pk_nil)))))) pss_nil)
      (pss_cons (ps_if (pt_cmpR op_eq (pv 2) pe_str (nomark _)) (pss_one (ps_ret (pe_mxs (metx_Web_without T) (bm_Web_without T) tk (fun _ _ _ _ h => h) hr (by decide) (pv 0) (pv 3)))) pss_nil)
      (pss_one (ps_ret (pe_mxs (metx_Web_without_tie T) (bm_Web_without_tie T) tk (fun _ _ _ _ h => h) hr (by decide) (pv 0) (pv 3)))))))))), ?_⟩
    have few : x.rest.length ≤ 1000 := by cases x <;> exact Nat.le_of_ble_eq_true rfl
    refine ⟨_, rfl, t, .str x.word, x.rest, rfl, .inl (.inl ht), few, fun D nD => ⟨_, _, rfl, _, _, rfl, rfl, ?_⟩⟩
    have s1 := same_upd (o := .lst x.rest) nD
    have hD : (upd H D (.lst x.rest)) D = some (.lst x.rest) := upd_same
    have W1 := W.same s1
    generalize upd H D (.lst x.rest) = H1 at s1 hD W1 ⊢
    obtain ⟨dx, _, _, _, _, _, g1, _⟩ := W1.ex
    have met : ∀ {q0 g : Addr}, H1 q0 = none → Same H1 (upd H1 q0 (.met g p)) ∧ (upd H1 q0 (.met g p)) D = some (.lst x.rest) ∧ (upd H1 q0 (.met g p)) q0 = some (.met g p) := fun n => ⟨same_upd n, same_upd n _ _ hD, upd_same⟩
    cases x with
    | las l =>
      refine ⟨_, rfl, rfl, _, rfl, iteT ?_⟩
      refine ⟨_, rfl, p, dx, _, rfl, g1, wf_no (by decide +kernel), fun q0 nq => ?_⟩
      obtain ⟨s2, hD2, hq2⟩ := met (g := He.ma K (He.ga K "Web") "with_by") nq
      refine ⟨_, rfl, D, _, rfl, .inr (.inl (.inl hD2)), hq2, p, m, l, rfl, W1.same s2, fun e => ?_, fun e q1 H' s' n' W' => q ?_ q1 H' ((s1.trans s2).trans s') ((s1.trans s2).free n') W'⟩
      · exact (o (rf1 "BadBy" "by" (.int l)) (by simp [Dd.no, e])).same (s1.trans s2)
      · simp [Dd.no, e]
    | mom z =>
      refine ⟨_, rfl, rfl, _, rfl, iteF ⟨_, rfl, rfl, _, rfl, iteT ?_⟩⟩
      refine ⟨_, rfl, p, dx, _, rfl, g1, wf_no (by decide +kernel), fun q0 nq => ?_⟩
      obtain ⟨s2, hD2, hq2⟩ := met (g := He.ma K (He.ga K "Web") "with_moment") nq
      have s12 := s1.trans s2
      refine ⟨_, rfl, D, _, rfl, .inr (.inl (.inl hD2)), hq2, p, m, z, rfl, W1.same s2, fine, fun n => ?_, fun n i => ?_, fun n i f => ?_, fun n i f q1 H' s' n' W' => q ?_ q1 H' (s12.trans s') (s12.free n') W'⟩
      · exact (o (rf1 "BadName" "name" (.str z)) (by simp [Dd.no, nm_no n])).same s12
      · exact (o (rf1 "Taken" "name" (.str z)) (by simp [Dd.no, nmB_ok.2 n, i])).same s12
      · exact (o (rf1 "Full" "most" (.int 10)) (by simp [Dd.no, nmB_ok.2 n, i, f])).same s12
      · simp [Dd.no, nmB_ok.2 n, i, f]
    | span y =>
      refine ⟨_, rfl, rfl, _, rfl, iteF ⟨_, rfl, rfl, _, rfl, iteF ⟨_, rfl, rfl, _, rfl, iteT ?_⟩⟩⟩
      refine ⟨_, rfl, D, _, rfl, .inl (.inl hD), rfl, _, _, rfl, _, _, rfl, _, _, rfl, _, _, rfl, _, _, rfl, rfl, ?_⟩
      refine ⟨_, rfl, p, dx, _, rfl, g1, wf_no (by decide +kernel), _, rfl, _, rfl, _, rfl, _, rfl, _, rfl, rfl, rfl, ?_⟩
      have la : (plK (oV y.la)).isSome = true := by cases y.la <;> rfl
      refine ⟨p, m, y.en, y.bg, .int y.lo, .int y.hi, oV y.la, rfl, W1, fine, rfl, rfl, la, ⟨fun n => ?_, fun n i => ?_, fun n i b => ?_, fun n i b l => ?_, fun n i b l h => ?_, fun n i b l h f => ?_⟩, fun n i b l h f lo hi la' e1 e2 e3 q1 H' s' n' W' => ?_⟩
      · exact (o (rf1 "BadName" "name" (.str y.en)) (by simp [Dd.no, nm_no n])).same s1
      · exact (o (rf1 "Taken" "name" (.str y.en)) (by simp [Dd.no, nmB_ok.2 n, i])).same s1
      · exact (o (rf1 "NoMoment" "name" (.str y.bg)) (by simp only [Dd.no, nmB_ok.2 n, if_neg i, if_pos b]; rfl)).same s1
      · exact (o (rf2 "BadLength" "low" "high" (.int y.lo) (.int y.hi)) (by simp only [Dd.no, nmB_ok.2 n, if_neg i, if_neg (show ¬ ¬ y.bg ∈ ("start" : Str) :: m.own from fun z => z b), if_pos l]; rfl)).same s1
      · exact (o (rf1 "BadLate" "late" (oV y.la)) (by simp only [Dd.no, nmB_ok.2 n, if_neg i, if_neg (show ¬ ¬ y.bg ∈ ("start" : Str) :: m.own from fun z => z b), l, if_pos h]; rfl)).same s1
      · exact (o (rf1 "Full" "most" (.int 4)) (by simp only [Dd.no, nmB_ok.2 n, if_neg i, if_neg (show ¬ ¬ y.bg ∈ ("start" : Str) :: m.own from fun z => z b), l, h, if_neg f]; rfl)).same s1
      · have ey : (⟨y.en, y.bg, lo, hi, la'⟩ : Wd) = y := by rw [← V.int.inj e1, ← V.int.inj e2, ← oV_injW e3]
        rw [ey] at W'
        exact q (by simp only [Dd.no, nmB_ok.2 n, if_neg i, if_neg (show ¬ ¬ y.bg ∈ ("start" : Str) :: m.own from fun z => z b), l, h, if_pos f]; rfl) q1 H' (s1.trans s') (s1.free n') W'
    | tie y =>
      refine ⟨_, rfl, rfl, _, rfl, iteF ⟨_, rfl, rfl, _, rfl, iteF ⟨_, rfl, rfl, _, rfl, iteF ⟨_, rfl, rfl, _, rfl, iteT ?_⟩⟩⟩⟩
      refine ⟨_, rfl, D, _, rfl, .inl (.inl hD), rfl, _, _, rfl, _, _, rfl, _, _, rfl, _, _, rfl, rfl, ?_⟩
      refine ⟨_, rfl, p, dx, _, rfl, g1, wf_no (by decide +kernel), _, rfl, _, rfl, _, rfl, _, rfl, rfl, rfl, ?_⟩
      have la : (plK (oV y.bot)).isSome = true := by cases y.bot <;> rfl
      have lb : (plK (oV y.top)).isSome = true := by cases y.top <;> rfl
      refine ⟨p, m, y.one, y.oth, oV y.bot, oV y.top, rfl, W1, la, lb, fun a => ?_, fun a b => ?_, fun a b c => ?_, fun a b c e f => ?_, fun a b c f bo to e1 e2 bk q1 H' s' n' W' => ?_⟩
      · exact (o (rf1 "NoPoint" "name" (.str y.one)) (by simp only [Dd.no, if_pos a])).same s1
      · exact (o (rf1 "NoPoint" "name" (.str y.oth)) (by simp only [Dd.no, if_neg (show ¬ ¬ y.one ∈ m.pts from fun z => z a), if_pos b])).same s1
      · exact (o (rf2 "BadTie" "least" "most" (oV y.bot) (oV y.top)) (by simp only [Dd.no, if_neg (show ¬ ¬ y.one ∈ m.pts from fun z => z a), if_neg (show ¬ ¬ y.oth ∈ m.pts from fun z => z b), if_pos c])).same s1
      · exact (o (rf1 "Full" "most" (.int 40)) (by simp only [Dd.no, if_neg (show ¬ ¬ y.one ∈ m.pts from fun z => z a), if_neg (show ¬ ¬ y.oth ∈ m.pts from fun z => z b), if_neg (show ¬ (y.one = y.oth ∨ tieBnd (oV y.bot) (oV y.top) = false) from fun z => z.elim c fun z => by rw [e] at z; cases z), if_neg f])).same s1
      · have ey : (⟨y.one, y.oth, bo, to⟩ : Bd) = y := by rw [← oV_injW e1, ← oV_injW e2]
        rw [ey] at W'
        have e : tieBnd (oV y.bot) (oV y.top) = true := by rw [e1, e2]; exact bd_of rfl rfl bk
        exact q (by simp only [Dd.no, if_neg (show ¬ ¬ y.one ∈ m.pts from fun z => z a), if_neg (show ¬ ¬ y.oth ∈ m.pts from fun z => z b), if_neg (show ¬ (y.one = y.oth ∨ tieBnd (oV y.bot) (oV y.top) = false) from fun z => z.elim c fun z => by rw [e] at z; cases z), if_pos f]) q1 H' (s1.trans s') (s1.free n') W'
    | unt i =>
      refine ⟨_, rfl, rfl, _, rfl, iteF ⟨_, rfl, rfl, _, rfl, iteF ⟨_, rfl, rfl, _, rfl, iteF ⟨_, rfl, rfl, _, rfl, iteF ⟨_, rfl, rfl, _, rfl, iteF ?_⟩⟩⟩⟩⟩
      refine ⟨_, rfl, p, dx, _, rfl, g1, wf_no (by decide +kernel), fun q0 nq => ?_⟩
      obtain ⟨s2, hD2, hq2⟩ := met (g := He.ma K (He.ga K "Web") "without_tie") nq
      have s12 := s1.trans s2
      refine ⟨_, rfl, D, _, rfl, .inr (.inl (.inl hD2)), hq2, p, m, .int i, rfl, W1.same s2, rfl, fun e => ?_, fun j ej hj q1 H' s' n' W' => ?_⟩
      · exact (o (rf1 "NoTie" "at" (.int i)) (by simp [Dd.no, e])).same s12
      · cases ej
        exact q (by simp only [Dd.no, if_pos (show whB 0 ((m.bd.length : Int) - 1) (.int (j : Int)) = true from decide_eq_true ⟨by omega, by omega⟩)]) q1 H' (s12.trans s') (s12.free n') W'
    | wo z =>
      refine ⟨_, rfl, rfl, _, rfl, iteF ⟨_, rfl, rfl, _, rfl, iteF ⟨_, rfl, rfl, _, rfl, iteF ⟨_, rfl, rfl, _, rfl, iteF ⟨_, rfl, rfl, _, rfl, iteT ?_⟩⟩⟩⟩⟩
      refine ⟨_, rfl, p, dx, _, rfl, g1, wf_no (by decide +kernel), fun q0 nq => ?_⟩
      obtain ⟨s2, hD2, hq2⟩ := met (g := He.ma K (He.ga K "Web") "without") nq
      have s12 := s1.trans s2
      refine ⟨_, rfl, D, _, rfl, .inr (.inl (.inl hD2)), hq2, p, m, z, rfl, W1.same s2, fun n => ?_, fun i n u => ?_, fun i n u q1 H' s' n' W' => ?_⟩
      · exact (o (rf1 "NoPoint" "name" (.str z)) (by simp only [Dd.no, if_pos n])).same s12
      · exact (o (rf1 "Used" "name" (.str z)) (by simp only [Dd.no, if_neg (show ¬ (¬ z ∈ m.pts ∨ z = "start") from fun e => e.elim (fun e => e i) n), if_pos u])).same s12
      · exact q (by simp only [Dd.no, if_neg (show ¬ (¬ z ∈ m.pts ∨ z = "start") from fun e => e.elim (fun e => e i) n), u]; rfl) q1 H' (s12.trans s') (s12.free n') W'
end
end Tw

set_option maxHeartbeats 4000000
namespace Tw
open PySem PySem.Spec PyProof.Rows L2
/-! log.py -/
theorem paired_last {α β : Type} {F : α → β → Prop} : ∀ {l : List α} {m : List β} {b : β}, Paired F l (m ++ [b]) → ∃ l0 a, l = l0 ++ [a] ∧ Paired F l0 m ∧ F a b
  | _, [], b, .cons h .nil => ⟨[], _, rfl, .nil, h⟩
  | _, c :: m, b, .cons h t => by
    obtain ⟨l0, a, rfl, p, f⟩ := paired_last (m := m) t
    exact ⟨_ :: l0, a, rfl, .cons h p, f⟩
/-- several deeds, one behind the other -/
def dealt (m : Md) : List Dd → Except Rf Md
  | [] => .ok m
  | x :: xs => match x.no m with
    | some r => .error r
    | none => dealt (x.did m) xs
/-- a log: the webs, what was done, what was taken back -/
structure Lg where
  webs : List Md
  done : List (List Dd)
  und : List (List Dd × Md)
structure LgP where
  p : Addr
  dx : Addr
  w : Addr
  d : Addr
  u : Addr
def lf (w d u : Addr) : List (Str × V) := [("webs", .ref w), ("done", .ref d), ("undone", .ref u)]
theorem lf_w {w d u : Addr} : (lf w d u).lookup ("webs" : Str) = some (.ref w) := by
  unfold lf
  rw [List.lookup_cons_self]
theorem lf_d {w d u : Addr} : (lf w d u).lookup ("done" : Str) = some (.ref d) := by
  unfold lf
  rw [List.lookup_cons, show (("done" : Str) == "webs") = false by decide +kernel, List.lookup_cons_self]
theorem lf_u {w d u : Addr} : (lf w d u).lookup ("undone" : Str) = some (.ref u) := by
  unfold lf
  rw [List.lookup_cons, show (("undone" : Str) == "webs") = false by decide +kernel, List.lookup_cons, show (("undone" : Str) == "done") = false by decide +kernel, List.lookup_cons_self]
theorem lf_pu {w d u v : Addr} : putF "undone" (.ref v) (lf w d u) = lf w d v := by
  unfold lf
  simp only [putF, if_neg (show ¬ (("webs" : Str) = "undone") by decide +kernel), if_neg (show ¬ (("done" : Str) = "undone") by decide +kernel), if_true]
theorem lf_no {w d u : Addr} {m : Str} (h : ([("webs" : Str), "done", "undone"].all fun x => !(m == x)) = true) : (lf w d u).lookup m = none := by
  simp only [List.all_cons, List.all_nil, Bool.and_true, Bool.and_eq_true, Bool.not_eq_true'] at h
  unfold lf
  rw [List.lookup_cons, h.1, List.lookup_cons, h.2.1, List.lookup_cons, h.2.2]
  rfl
/-- some deeds as a tuple -/
def DsAt (H : Hp) (v : V) (xs : List Dd) : Prop := ∃ t ts, v = .ref t ∧ H t = some (.tup ts) ∧ Rows H ts (xs.map Dd.row)
theorem DsAt.kt {H H' : Hp} {v : V} {xs : List Dd} (h : DsAt H v xs) (k : Kt H H') : DsAt H' v xs := by
  obtain ⟨t, ts, e, h1, h2⟩ := h
  exact ⟨t, ts, e, k _ _ h1, h2.keep k⟩
section
variable {K : PySem.W.Frag}
abbrev CL (K : PySem.W.Frag) : Addr := He.ga K "Log"
def UnAt (K : PySem.W.Frag) (H : Hp) (v : V) (r : List Dd × Md) : Prop := ∃ t y q, v = .ref t ∧ H t = some (.tup [y, .ref q]) ∧ DsAt H y r.1 ∧ WebAt (CW K) H q r.2
structure LgAt (K : PySem.W.Frag) (H : Hp) (a : LgP) (L : Lg) : Prop where
  obj : H a.p = some (.ins (CL K) a.dx (lf a.w a.d a.u))
  webs : ∃ ws, H a.w = some (.lst ws) ∧ Paired (fun v m => ∃ q, v = .ref q ∧ WebAt (CW K) H q m) ws L.webs
  done : ∃ ds, H a.d = some (.lst ds) ∧ Paired (DsAt H) ds L.done
  und : ∃ us, H a.u = some (.lst us) ∧ Paired (UnAt K H) us L.und
  nwd : a.w ≠ a.d
  nwu : a.w ≠ a.u
  ndu : a.d ≠ a.u
  len : L.webs.length = L.done.length + 1
theorem nof {l : Int} {a b c w d u : Addr} (h : wf l a b c = lf w d u) : False := by
  unfold wf lf at h
  exact absurd (Prod.mk.inj (List.cons.inj h).1).1 (by decide +kernel)
/-- webs and tuples stay -/
structure Kw (K : PySem.W.Frag) (H H' : Hp) : Prop where
  kt : Kt H H'
  web : ∀ q dx l a b c, H q = some (.ins (CW K) dx (wf l a b c)) → H' q = some (.ins (CW K) dx (wf l a b c))
theorem Kw.same {H H' : Hp} (s : Same H H') : Kw K H H' := ⟨Kt.of s, fun q _ _ _ _ _ e => s _ _ e⟩
theorem Kw.trans {H H1 H2 : Hp} (a : Kw K H H1) (b : Kw K H1 H2) : Kw K H H2 := ⟨a.kt.trans b.kt, fun q _ _ _ _ _ e => b.web _ _ _ _ _ _ (a.web _ _ _ _ _ _ e)⟩
theorem Kw.lst {H : Hp} {x : Addr} {xs ys : List V} (h : H x = some (.lst xs)) : Kw K H (upd H x (.lst ys)) := ⟨kt_lst h, fun q dx l a b c e => by
  rw [upd_ne (ne_of e h (fun z => nomatch z))]
  exact e⟩
theorem Kw.at {H H' : Hp} {q : Addr} {m : Md} (k : Kw K H H') (W : WebAt (CW K) H q m) : WebAt (CW K) H' q m := by
  obtain ⟨dx, a, b, c, ws, bs, h1, h2, h3, h4, h5, h6⟩ := W.ex
  exact ⟨⟨dx, a, b, c, ws, bs, k.web _ _ _ _ _ _ h1, k.kt _ _ h2, k.kt _ _ h3, h4.keep k.kt, k.kt _ _ h5, h6.keep k.kt⟩, W.len, W.last⟩
theorem Kw.un {H H' : Hp} {v : V} {r : List Dd × Md} (k : Kw K H H') (u : UnAt K H v r) : UnAt K H' v r := by
  obtain ⟨t, y, q, e, h1, h2, h3⟩ := u
  exact ⟨t, y, q, e, k.kt _ _ h1, h2.kt k.kt, k.at h3⟩
theorem Kw.webs {H H' : Hp} {ws : List V} {ms : List Md} (k : Kw K H H') (p : Paired (fun v m => ∃ q, v = .ref q ∧ WebAt (CW K) H q m) ws ms) : Paired (fun v m => ∃ q, v = .ref q ∧ WebAt (CW K) H' q m) ws ms := p.mono fun _ _ ⟨q, e, W⟩ => ⟨q, e, k.at W⟩
theorem Kw.dones {H H' : Hp} {ds : List V} {xs : List (List Dd)} (k : Kw K H H') (p : Paired (DsAt H) ds xs) : Paired (DsAt H') ds xs := p.mono fun _ _ d => d.kt k.kt
theorem Kw.uns {H H' : Hp} {us : List V} {xs : List (List Dd × Md)} (k : Kw K H H') (p : Paired (UnAt K H) us xs) : Paired (UnAt K H') us xs := p.mono fun _ _ d => k.un d
/-- a log stays where its own places do -/
theorem LgAt.keep {H H' : Hp} {a : LgP} {L : Lg} (A : LgAt K H a L) (k : Kw K H H') (kp : ∀ o, H a.p = some o → H' a.p = some o) (kl : ∀ x xs, (x = a.w ∨ x = a.d ∨ x = a.u) → H x = some (.lst xs) → H' x = some (.lst xs)) : LgAt K H' a L := by
  obtain ⟨ws, w1, w2⟩ := A.webs
  obtain ⟨ds, d1, d2⟩ := A.done
  obtain ⟨us, u1, u2⟩ := A.und
  exact ⟨kp _ A.obj, ⟨ws, kl _ _ (.inl rfl) w1, k.webs w2⟩, ⟨ds, kl _ _ (.inr (.inl rfl)) d1, k.dones d2⟩, ⟨us, kl _ _ (.inr (.inr rfl)) u1, k.uns u2⟩, A.nwd, A.nwu, A.ndu, A.len⟩
theorem LgAt.same {H H' : Hp} {a : LgP} {L : Lg} (A : LgAt K H a L) (s : Same H H') : LgAt K H' a L := A.keep (.same s) (fun _ e => s _ _ e) fun _ _ _ e => s _ _ e
end
section
variable {P : Program} {w : World} {K : PySem.W.Frag} {mg : Str → Option Value} {base : Heap}
abbrev TboF (w : World) (K : PySem.W.Frag) : Prop := ∀ t ∈ tb, He.dicW K (t.1 K) = some (He.keysIn w.params t.2)
/-! ### need_deed, granted -/
def sp_ndd : Sp := fun vs H Q _ => ∃ (t : Addr) (x : Dd), vs = [.ref t] ∧ H t = some (.tup x.row) ∧ Q .non H
theorem forms_of (T : Tp K mg) (x : Dd) : ∃ a xs, PySem.W.nsIn K (He.ga K "FORMS") x.word = some (some (.ref a)) ∧ xs.length = x.rest.length ∧ ∀ H, SqT K H a xs := by
  have of : ∀ {k : Str} {zs : List Str} {n : Nat}, frxB K (He.ga K "FORMS") k zs = true → zs.length = n → ∃ a xs, PySem.W.nsIn K (He.ga K "FORMS") k = some (some (.ref a)) ∧ xs.length = n ∧ ∀ H, SqT K H a xs := fun {k zs n} h l => by
    obtain ⟨a, e, s⟩ := frx_ok h
    exact ⟨a, zs.map V.str, e, by rw [List.length_map]; exact l, s⟩
  cases x with
  | las l => exact of (frx_FORMS_by T) rfl
  | mom l => exact of (frx_FORMS_moment T) rfl
  | span l => exact of (frx_FORMS_span T) rfl
  | tie l => exact of (frx_FORMS_tie T) rfl
  | unt l => exact of (frx_FORMS_untie T) rfl
  | wo l => exact of (frx_FORMS_without T) rfl
theorem cal_need_deed (T : Tp K mg) (TO : TboF w K) : Cal P w K mg base 2 "need_deed" sp_ndd := by
  obtain ⟨fd, F⟩ := f_need_deed T
  refine cal_of F (g_need_deed T) (b_need_deed F) sc_need_deed (fun vs H Q E h => ?_) (fun cdv A outer s H vs Q E hr h => ?_)
  · obtain ⟨t, x, rfl, _⟩ := h
    rfl
  · obtain ⟨t, x, rfl, ht, q⟩ := h
    have hu := hu_of hr
    obtain ⟨es, n, DF, hks⟩ := kd_all (TO (fun K => He.ga K "FORMS", ["by", "moment", "span", "tie", "without", "untie"]) (by first | exact List.mem_cons_self | exact List.mem_cons_of_mem _ List.mem_cons_self))
    refine ⟨_, (pss_cons (ps_if (PW.pt (pw_or (pt_not (pt_val (pe_callB call_isK (by rfl) (z_isinstance T) bb_isinstance (pa_cons (pv 0) (pa_cons (pe_bltn (v := .ty "tuple") (by rfl) (z_tuple T) bb_tuple rfl) pa_nil))))) (pw_or1 (pt_cmpR op_eq (pe_callB call_len_seq (by rfl) (z_len T) bb_len (pa_cons (pv 0) pa_nil)) pe_int (nomark _))))) (pss_one ps_never) pss_nil)
      (pss_cons (ps_set (i := 1) sc_need_deed.nd rfl (.inl rfl) (pe_ix ix_tup (pv 0) pe_int (fun _ _ => rfl)))
      (pss_one (ps_if (PW.pt (pw_or (pt_not (pt_val (pe_callB call_isK (by rfl) (z_isinstance T) bb_isinstance (pa_cons (pv 1) (pa_cons (pe_bltn (v := .ty "str") (by rfl) (z_str T) bb_str rfl) pa_nil))))) (pw_or (pt_cmpR (op_notIn_kd DF) (pv 1) (pe_glob (v := .ref (He.ga K "FORMS")) (by rfl) (g_FORMS T) rfl) (by rfl)) (pw_or1 (pt_cmpR op_ne (pe_op op_sub (pe_callB call_len_seq (by rfl) (z_len T) bb_len (pa_cons (pv 0) pa_nil)) pe_int) (pe_callB call_len_seq (by rfl) (z_len T) bb_len (pa_cons (pe_ix ix_kdict (pe_glob (v := .ref (He.ga K "FORMS")) (by rfl) (g_FORMS T) rfl) (pv 1) (fun _ _ => rfl)) pa_nil)) (nomark _)))))) (pss_one ps_never) pss_nil)))), ?_⟩
    obtain ⟨a, xs, hn, hl, hs⟩ := forms_of T x
    refine ⟨_, rfl, .ref t, "tuple", "tuple", rfl, .base (.tup ht), by decide, by decide, _, rfl, iteF ?_⟩
    refine ⟨_, rfl, t, _, rfl, .inr (.inl (.inl ht)), rfl, _, rfl, ?_⟩
    rw [decide_eq_false (show ¬ V.int ((x.row.length : Nat) : Int) = V.int 0 from fun z => by have := V.int.inj z; unfold Dd.row at this; rw [List.length_cons] at this; omega)]
    refine iteF ⟨_, rfl, t, _, 0, _, rfl, rfl, .inl (.inl ht), atI_nat (j := 0) rfl, ?_⟩
    refine ⟨_, rfl, .str x.word, "str", "str", rfl, .base (.str _), by decide, by decide, _, rfl, iteF ?_⟩
    refine ⟨_, rfl, x.word, _, rfl, rfl, hn, _, rfl, iteF ?_⟩
    refine ⟨_, rfl, t, _, rfl, .inr (.inl (.inl ht)), _, 1, rfl, rfl, _, rfl, _, x.word, .ref a, rfl, rfl, ⟨es, n, .ref a, DF.at_, DF.lit, hn, rfl⟩, a, xs, rfl, .inr (hs _), rfl, _, rfl, ?_⟩
    rw [hl, decide_eq_true (show V.int (((x.row.length : Nat) : Int) - 1) = V.int ((x.rest.length : Nat) : Int) from congrArg V.int (by unfold Dd.row; rw [List.length_cons]; omega))]
    exact iteF q
/-! ### what is told -/
/-- a deed, or a new list of them -/
def ToAt (H : Hp) (v : V) (xs : List Dd) : Prop := (∃ t x, xs = [x] ∧ v = .ref t ∧ H t = some (.tup x.row)) ∨ (xs.length ≠ 1 ∧ ∃ D ts, v = .ref D ∧ H D = some (.lst ts) ∧ Rows H ts (xs.map Dd.row))
def sp_ato : Sp := fun vs H Q _ => ∃ (y : V) (xs : List Dd), vs = [y] ∧ DsAt H y xs ∧ xs ≠ [] ∧ (∀ t x, xs = [x] → H t = some (.tup x.row) → Q (.ref t) H) ∧ (xs.length ≠ 1 → ∀ D ts, H D = none → Rows H ts (xs.map Dd.row) → Q (.ref D) (upd H D (.lst ts)))
theorem cal_as_told (T : Tp K mg) : Cal P w K mg base 1 "as_told" sp_ato := by
  obtain ⟨fd, F⟩ := f_as_told T
  refine cal_of F (g_as_told T) (b_as_told F) sc_as_told (fun vs H Q E h => ?_) (fun cdv A outer s H vs Q E hr h => ?_)
  · obtain ⟨y, xs, rfl, _⟩ := h
    rfl
  · obtain ⟨y, xs, rfl, ⟨t, ts, rfl, ht, rt⟩, ne, one, many⟩ := h
    have lt : ts.length = xs.length := by rw [rt.len, List.length_map]
    refine ⟨_, (pss_one (ps_ret (pe_ifExp (pt_cmpR op_eq (pe_callB call_len_seq (by rfl) (z_len T) bb_len (pa_cons (pv 0) pa_nil)) pe_int (nomark _)) (pe_ix ix_tup (pv 0) pe_int (fun _ _ => rfl)) (pe_callTy call_list_of (by rfl) (z_list T) bb_list (pa_cons (pv 0) pa_nil))))), ?_⟩
    refine ⟨_, rfl, t, _, rfl, .inr (.inl (.inl ht)), rfl, _, rfl, ?_⟩
    by_cases h1 : xs.length = 1
    · rw [decide_eq_true (show V.int ((ts.length : Nat) : Int) = V.int 1 from congrArg V.int (by omega))]
      obtain ⟨x, rfl⟩ := List.length_eq_one_iff.1 h1
      cases rt with
      | cons hx r0 =>
        cases r0
        obtain ⟨t1, rfl, ht1⟩ := hx
        exact iteT ⟨_, rfl, t, _, 0, _, rfl, rfl, .inl (.inl ht), atI_nat (j := 0) rfl, one t1 x rfl ht1⟩
    · rw [decide_eq_false (show ¬ V.int ((ts.length : Nat) : Int) = V.int 1 from fun z => h1 (by have := V.int.inj z; omega))]
      exact iteF ⟨_, rfl, t, _, rfl, .inr (.inl (.inl ht)), fun D nD => many h1 D ts nD rt⟩
/-! ### now, len -/
def sp_now (K : PySem.W.Frag) : Sp := fun vs H Q _ => ∃ (a : LgP) (L : Lg) (m : Md), vs = [.ref a.p] ∧ LgAt K H a L ∧ (∃ ms, L.webs = ms ++ [m]) ∧ ∀ q, WebAt (CW K) H q m → Q (.ref q) H
theorem met_Log_now (T : Tp K mg) : Met P w K mg base 1 (CL K) "now" (sp_now K) := by
  obtain ⟨fd, F⟩ := f_Log_now T
  refine met_of F (cl_Log T) (me_Log_now T) (b_Log_now F) sc_Log_now (fun vs H Q E h => ?_) (fun cdv A outer s H vs Q E hr h => ?_)
  · obtain ⟨a, L, m, rfl, _⟩ := h
    rfl
  · obtain ⟨a, L, m, rfl, A1, ⟨ms, hm⟩, q⟩ := h
    obtain ⟨ws, w1, w2⟩ := A1.webs
    rw [hm] at w2
    obtain ⟨ws0, v, rfl, _, q0, rfl, W⟩ := paired_last w2
    refine ⟨_, (pss_one (ps_ret (pe_ix ix_list (pe_fld (pv 0) rfl) (pe_un un_neg pe_int) (fun _ _ => rfl)))), ?_⟩
    refine ⟨_, rfl, a.p, CL K, a.dx, _, _, rfl, A1.obj, cl_Log T, na_Log_webs T, lf_w, 1, rfl, a.w, _, _, .ref q0, rfl, rfl, .inl (.inl w1), atI_last _ _, q q0 W⟩
def sp_llen (K : PySem.W.Frag) : Sp := fun vs H Q _ => ∃ (a : LgP) (L : Lg), vs = [.ref a.p] ∧ LgAt K H a L ∧ Q (.int ((L.done.length : Nat) : Int)) H
theorem met_Log_UlenU (T : Tp K mg) : Met P w K mg base 1 (CL K) "__len__" (sp_llen K) := by
  obtain ⟨fd, F⟩ := f_Log_UlenU T
  refine met_of F (cl_Log T) (me_Log_UlenU T) (b_Log_UlenU F) sc_Log_UlenU (fun vs H Q E h => ?_) (fun cdv A outer s H vs Q E hr h => ?_)
  · obtain ⟨a, L, rfl, _⟩ := h
    rfl
  · obtain ⟨a, L, rfl, A1, q⟩ := h
    obtain ⟨ds, d1, d2⟩ := A1.done
    refine ⟨_, (pss_one (ps_ret (pe_callB call_len_seq (by rfl) (z_len T) bb_len (pa_cons (pe_fld (pv 0) rfl) pa_nil)))), ?_⟩
    refine ⟨_, rfl, a.p, CL K, a.dx, _, _, rfl, A1.obj, cl_Log T, na_Log_done T, lf_d, a.d, _, rfl, .inl (.inl (.inl d1)), ?_⟩
    rw [Paired.length d2]
    exact q
/-! ### deeds done -/
/-- all stays but a log and its two rows -/
def Did (a : LgP) (H H' : Hp) : Prop := ∀ b o, H b = some o → b ≠ a.p → b ≠ a.w → b ≠ a.d → H' b = some o
def Lg.doo (L : Lg) (m : Md) (xs : List Dd) : Lg := ⟨L.webs ++ [m], L.done ++ [xs], []⟩
def sp_dwh (K : PySem.W.Frag) : Sp := fun vs H Q E => ∃ (a : LgP) (L : Lg) (m : Md) (y : V) (xs : List Dd), vs = [.ref a.p, y] ∧ LgAt K H a L ∧ (∃ ms, L.webs = ms ++ [m]) ∧ DsAt H y xs ∧ (∀ x ∈ xs, x.Fine) ∧ L.done.length ≤ 900 ∧
  (∀ r, dealt m xs = .error r → OutF H E (He.ga K r.1) r.2) ∧ ∀ m', dealt m xs = .ok m' → ∀ (q u' : Addr) (H' : Hp), Did a H H' → H u' = none → LgAt K H' { a with u := u' } (L.doo m' xs) → WebAt (CW K) H' q m' → Q (.ref q) H'
theorem dealt_some {m : Md} {x : Dd} {xs : List Dd} {r : Rf} (h : x.no m = some r) : dealt m (x :: xs) = .error r := by
  rw [dealt, h]
theorem dealt_none {m : Md} {x : Dd} {xs : List Dd} (h : x.no m = none) : dealt m (x :: xs) = dealt (x.did m) xs := by
  rw [dealt, h]
theorem dealt_at {m : Md} : ∀ {xs : List Dd} {i : Nat} {x : Dd}, xs[i]? = some x → xs.drop i = x :: xs.drop (i + 1) := fun h => by
  obtain ⟨hi, e⟩ := List.getElem?_eq_some_iff.1 h
  rw [List.drop_eq_getElem_cons hi, e]
theorem calx_do_whole (T : Tp K mg) : CalX P w K mg base 12 "do_whole" (sp_dwh K) := by
  obtain ⟨fd, F⟩ := f_do_whole T
  refine calx_of F (g_do_whole T) (b_do_whole F) sc_do_whole (fun vs H Q E h => ?_) (fun cdv A outer s H vs Q E hr h tk => ?_)
  · obtain ⟨a, L, m, y, xs, rfl, _⟩ := h
    rfl
  · obtain ⟨a, L, m, y, xs, rfl, A1, hms, ⟨t, ts, rfl, ht, rt⟩, fine, few, o, q⟩ := h
    have hu := hu_of hr
    refine ⟨_, (pss_cons (ps_set (i := 2) sc_do_whole.nd rfl (.inl rfl) (C8.pe_mt0 (met_Log_now T) hr (by decide) (pv 0)))
      (pss_cons (ps_for (passes_of rfl) rfl (pi_tup (pv 1)) (pg_name (i := 3) sc_do_whole.nd rfl (.inl rfl))
        (pss_one (ps_set (i := 2) sc_do_whole.nd rfl (.inl rfl) (pe_cx (calx_with_deed T) tk (fun _ _ _ _ h => h) hr (by decide) rfl (pa_cons (pv 2) (pa_cons (pv 3) pa_nil))))))
      (pss_cons (ps_expr (pe_bm PySem.F.plainAttrs_list PySem.F.slot_list_append PySem.F.type_list_append mt_append (pe_fld (pv 0) rfl) (pa_cons (pv 1) pa_nil)))
      (pss_cons (ps_expr (pe_bm PySem.F.plainAttrs_list PySem.F.slot_list_append PySem.F.type_list_append mt_append (pe_fld (pv 0) rfl) (pa_cons (pv 2) pa_nil)))
      (pss_cons (ps_fld (pv 0) (pe_lst pa_nil) rfl)
      (pss_one (ps_ret (pv 2)))))))), ?_⟩
    refine ⟨_, rfl, a.p, a.dx, _, rfl, A1.obj, lf_no (by decide +kernel), a, L, m, rfl, A1, hms, fun q0 W0 => ?_⟩
    refine ⟨_, rfl, t, rfl, ⟨ts, .inl (.inl ht)⟩, for_tup (K := K) (a := t) (xs := ts) (fun i σ H' => ∃ (qi : Addr) (mi : Md) (y3 : Option V), σ = [some (.ref a.p), some (.ref t), some (.ref qi), y3] ∧ Same H H' ∧ WebAt (CW K) H' qi mi ∧ dealt m xs = dealt mi (xs.drop i)) ⟨q0, m, none, rfl, Same.refl _, W0, by rw [List.drop_zero]⟩ (fun i σ H' _ ⟨_, _, _, _, s', _⟩ => .inl (.inl (s' _ _ ht))) ?_ ?_⟩
    · rintro i v σ H1 hv ⟨qi, mi, y3, rfl, s1, W1, ed⟩
      obtain ⟨r, hx, t1, rfl, ht1⟩ := paired_at rt hv
      rw [List.getElem?_map] at hx
      obtain ⟨x, ex, rfl⟩ := Option.map_eq_some_iff.1 hx
      rw [dealt_at (m := m) ex] at ed
      refine ⟨_, rfl, _, rfl, qi, t1, mi, x, rfl, W1, s1 _ _ ht1, fine x (List.mem_of_getElem? ex), fun r er => ?_, fun er q2 H2 s2 _ W2 => ?_⟩
      · exact (o r (by rw [ed, dealt_some er])).same s1
      · refine ⟨q2, x.did mi, _, rfl, s1.trans s2, W2, ?_⟩
        rw [ed, dealt_none er]
    · rintro σ H1 ⟨qi, mi, y3, rfl, s1, W1, ed⟩
      have lt : ts.length = xs.length := by rw [rt.len, List.length_map]
      rw [lt, List.drop_length] at ed
      have A2 := A1.same s1
      obtain ⟨ds, d1, d2⟩ := A2.done
      obtain ⟨ws, w1, w2⟩ := A2.webs
      have ld : ds.length = L.done.length := Paired.length d2
      have lw : ws.length = L.webs.length := Paired.length w2
      have hl := A1.len
      refine ⟨_, rfl, a.p, CL K, a.dx, _, _, rfl, A2.obj, cl_Log T, na_Log_done T, lf_d, .inl ⟨rfl, _, .inl (.inl d1)⟩, _, rfl, a.d, _, _, rfl, rfl, d1, small1000 (by omega), ?_⟩
      have p1 : Paired (DsAt H1) (ds ++ [.ref t]) (L.done ++ [xs]) := Paired.snoc d2 ⟨t, ts, rfl, s1 _ _ ht, rt.keep (Kt.of s1)⟩
      have k1 : Kw K H1 (upd H1 a.d (.lst (ds ++ [.ref t]))) := .lst d1
      have np : a.p ≠ a.d := ne_of A2.obj d1 (fun z => nomatch z)
      have npw : a.p ≠ a.w := ne_of A2.obj w1 (fun z => nomatch z)
      have w3 : (upd H1 a.d (.lst (ds ++ [.ref t]))) a.w = some (.lst ws) := by rw [upd_ne A1.nwd]; exact w1
      have o3 : (upd H1 a.d (.lst (ds ++ [.ref t]))) a.p = some (.ins (CL K) a.dx (lf a.w a.d a.u)) := by rw [upd_ne np]; exact A2.obj
      have d3 : (upd H1 a.d (.lst (ds ++ [.ref t]))) a.d = some (.lst (ds ++ [.ref t])) := upd_same
      have D3 : Did a H (upd H1 a.d (.lst (ds ++ [.ref t]))) := fun b x e n1 n2 n3 => by rw [upd_ne n3]; exact s1 _ _ e
      generalize upd H1 a.d (.lst (ds ++ [.ref t])) = H3 at k1 w3 o3 d3 D3 ⊢
      refine ⟨_, rfl, a.p, CL K, a.dx, _, _, rfl, o3, cl_Log T, na_Log_webs T, lf_w, .inl ⟨rfl, _, .inl (.inl w3)⟩, _, rfl, a.w, _, _, rfl, rfl, w3, small1000 (by omega), ?_⟩
      have k2 : Kw K H3 (upd H3 a.w (.lst (ws ++ [.ref qi]))) := .lst w3
      have o4 : (upd H3 a.w (.lst (ws ++ [.ref qi]))) a.p = some (.ins (CL K) a.dx (lf a.w a.d a.u)) := by rw [upd_ne npw]; exact o3
      have d4 : (upd H3 a.w (.lst (ws ++ [.ref qi]))) a.d = some (.lst (ds ++ [.ref t])) := by rw [upd_ne A1.nwd.symm]; exact d3
      have w4 : (upd H3 a.w (.lst (ws ++ [.ref qi]))) a.w = some (.lst (ws ++ [.ref qi])) := upd_same
      have D4 : Did a H (upd H3 a.w (.lst (ws ++ [.ref qi]))) := fun b x e n1 n2 n3 => by rw [upd_ne n2]; exact D3 _ _ e n1 n2 n3
      have k12 := k1.trans k2
      clear k1 k2
      generalize upd H3 a.w (.lst (ws ++ [.ref qi])) = H4 at k12 o4 d4 w4 D4 ⊢
      refine ⟨Nat.zero_le _, fun u' nu => ?_⟩
      have s5 := same_upd (o := .lst []) nu
      have npu : a.p ≠ u' := ne_of_none o4 nu
      have nwu : a.w ≠ u' := ne_of_none w4 nu
      have ndu : a.d ≠ u' := ne_of_none d4 nu
      refine ⟨_, rfl, a.p, CL K, a.dx, _, rfl, s5 _ _ o4, cl_Log T, na_Log_undone T, (by show 3 < 1000; decide), ?_⟩
      rw [lf_pu]
      have k3 : Kw K H4 (upd (upd H4 u' (.lst [])) a.p (.ins (CL K) a.dx (lf a.w a.d u'))) := by
        refine ⟨fun b zs e => ?_, fun b dx l a1 b1 c1 e => ?_⟩
        · rw [upd_ne (ne_of e o4 (fun z => nomatch z))]
          exact s5 _ _ e
        · rw [upd_ne (ne_of e o4 (fun z => by injection z with _ _ e3; exact nof e3))]
          exact s5 _ _ e
      have k123 := k12.trans k3
      have gets : ∀ {b x}, H4 b = some x → b ≠ a.p → (upd (upd H4 u' (.lst [])) a.p (.ins (CL K) a.dx (lf a.w a.d u'))) b = some x := fun e n => by
        rw [upd_ne n]
        exact s5 _ _ e
      have hu' : (upd (upd H4 u' (.lst [])) a.p (.ins (CL K) a.dx (lf a.w a.d u'))) u' = some (.lst []) := by rw [upd_ne npu.symm, upd_same]
      have ho' : (upd (upd H4 u' (.lst [])) a.p (.ins (CL K) a.dx (lf a.w a.d u'))) a.p = some (.ins (CL K) a.dx (lf a.w a.d u')) := upd_same
      have D5 : Did a H (upd (upd H4 u' (.lst [])) a.p (.ins (CL K) a.dx (lf a.w a.d u'))) := fun b x e n1 n2 n3 => gets (D4 b x e n1 n2 n3) n1
      generalize upd (upd H4 u' (.lst [])) a.p (.ins (CL K) a.dx (lf a.w a.d u')) = H5 at k3 k123 gets hu' ho' D5 ⊢
      refine ⟨_, rfl, ?_⟩
      have nuH : H u' = none := by
        cases e : H u' with
        | none => rfl
        | some x =>
          by_cases c1 : u' = a.p
          · exact absurd c1.symm npu
          · by_cases c2 : u' = a.w
            · exact absurd c2.symm nwu
            · by_cases c3 : u' = a.d
              · exact absurd c3.symm ndu
              · have := D4 u' x e c1 c2 c3
                rw [nu] at this
                cases this
      have W5 := k123.at W1
      exact q mi (by rw [ed]; rfl) qi u' H5 D5 nuH ⟨ho', ⟨_, gets w4 npw.symm, Paired.snoc (k123.webs w2) ⟨qi, rfl, W5⟩⟩, ⟨_, gets d4 np.symm, k123.dones p1⟩, ⟨_, hu', .nil⟩, A1.nwd, nwu, ndu, by show (L.webs ++ [mi]).length = (L.done ++ [xs]).length + 1; rw [List.length_append, List.length_append, hl]; rfl⟩ W5
def sp_ldo (K : PySem.W.Frag) : Sp := fun vs H Q E => ∃ (a : LgP) (L : Lg) (m : Md) (t : Addr) (x : Dd), vs = [.ref a.p, .ref t] ∧ LgAt K H a L ∧ (∃ ms, L.webs = ms ++ [m]) ∧ H t = some (.tup x.row) ∧ x.Fine ∧ L.done.length ≤ 900 ∧
  (∀ r, dealt m [x] = .error r → OutF H E (He.ga K r.1) r.2) ∧ ∀ m', dealt m [x] = .ok m' → ∀ (q u' : Addr) (H' : Hp), Did a H H' → H u' = none → LgAt K H' { a with u := u' } (L.doo m' [x]) → WebAt (CW K) H' q m' → Q (.ref q) H'
theorem metx_Log_do (T : Tp K mg) (TO : TboF w K) : MetX P w K mg base 14 (CL K) "do" (sp_ldo K) := by
  obtain ⟨fd, F⟩ := f_Log_do T
  refine metx_of F (cl_Log T) (me_Log_do T) (b_Log_do F) sc_Log_do (fun vs H Q E h => ?_) (fun cdv A outer s H vs Q E hr h tk => ?_)
  · obtain ⟨a, L, m, t, x, rfl, _⟩ := h
    rfl
  · obtain ⟨a, L, m, t, x, rfl, A1, hms, ht, fine, few, o, q⟩ := h
    refine ⟨_, (pss_cons (ps_expr (C8.pe_c (cal_need_deed T TO) hr (by decide) rfl (pa_cons (pv 1) pa_nil)))
      (pss_one (ps_ret (pe_cx (calx_do_whole T) tk (fun _ _ _ _ h => h) hr (by decide) rfl (pa_cons (pv 0) (pa_cons (pe_tup (pa_cons (pv 1) pa_nil)) pa_nil)))))), ?_⟩
    refine ⟨_, rfl, t, x, rfl, ht, ?_⟩
    refine ⟨_, rfl, _, rfl, (by show 1 ≤ sizeLine; decide), fun u nu => ?_⟩
    have s1 := same_upd (o := .tup [.ref t]) nu
    refine ⟨a, L, m, .ref u, [x], rfl, A1.same s1, hms, ⟨u, _, rfl, upd_same, .cons ⟨t, rfl, s1 _ _ ht⟩ .nil⟩, fun y hy => by rw [List.mem_singleton.1 hy]; exact fine, few, fun r er => (o r er).same s1, fun m' em q1 u' H' D' nu' A' W' => q m' em q1 u' H' (fun b z e n1 n2 n3 => D' b z (s1 _ _ e) n1 n2 n3) (s1.free nu') A' W'⟩
def sp_ldl (K : PySem.W.Frag) : Sp := fun vs H Q E => ∃ (a : LgP) (L : Lg) (m : Md) (l : Addr) (ts : List V) (xs : List Dd), vs = [.ref a.p, .ref l] ∧ LgAt K H a L ∧ (∃ ms, L.webs = ms ++ [m]) ∧ H l = some (.lst ts) ∧ Rows H ts (xs.map Dd.row) ∧ 2 ≤ xs.length ∧ xs.length ≤ 900 ∧ (∀ x ∈ xs, x.Fine) ∧ L.done.length ≤ 900 ∧
  (∀ r, dealt m xs = .error r → OutF H E (He.ga K r.1) r.2) ∧ ∀ m', dealt m xs = .ok m' → ∀ (q u' : Addr) (H' : Hp), Did a H H' → H u' = none → LgAt K H' { a with u := u' } (L.doo m' xs) → WebAt (CW K) H' q m' → Q (.ref q) H'
theorem metx_Log_deal (T : Tp K mg) (TO : TboF w K) : MetX P w K mg base 14 (CL K) "deal" (sp_ldl K) := by
  obtain ⟨fd, F⟩ := f_Log_deal T
  refine metx_of F (cl_Log T) (me_Log_deal T) (b_Log_deal F) sc_Log_deal (fun vs H Q E h => ?_) (fun cdv A outer s H vs Q E hr h tk => ?_)
  · obtain ⟨a, L, m, l, ts, xs, rfl, _⟩ := h
    rfl
  · obtain ⟨a, L, m, l, ts, xs, rfl, A1, hms, hl, rt, two, few2, fine, few, o, q⟩ := h
    have lt : ts.length = xs.length := by rw [rt.len, List.length_map]
    refine ⟨_, (pss_cons (ps_for (passes_of rfl) rfl (pi_list (pv 1)) (pg_name (i := 2) sc_Log_deal.nd rfl (.inl rfl))
        (pss_one (ps_expr (C8.pe_c (cal_need_deed T TO) hr (by decide) rfl (pa_cons (pv 2) pa_nil)))))
      (pss_cons (ps_if (pt_cmpR op_lt (pe_callB call_len_seq (by rfl) (z_len T) bb_len (pa_cons (pv 1) pa_nil)) pe_int (nomark _)) (pss_one (ps_raise rfl tk (pmk_b (mkx_BadDeed T) hr (by decide) rfl (pa_cons pe_str pa_nil)))) pss_nil)
      (pss_one (ps_ret (pe_cx (calx_do_whole T) tk (fun _ _ _ _ h => h) hr (by decide) rfl (pa_cons (pv 0) (pa_cons (pe_callTy call_tuple_of (by rfl) (z_tuple T) bb_tuple (pa_cons (pv 1) pa_nil)) pa_nil))))))), ?_⟩
    refine ⟨_, rfl, l, rfl, ⟨ts, .inl (.inl hl)⟩, for_list (K := K) (a := l) (xs := ts) (fun i σ H' => H' = H ∧ ∃ y2 : Option V, σ = [some (.ref a.p), some (.ref l), y2]) ⟨rfl, none, rfl⟩ (fun i σ H' _ h => by rw [h.1]; exact .inl (.inl hl)) ?_ ?_⟩
    · rintro i v σ H1 hv ⟨rfl, y2, rfl⟩
      obtain ⟨r, hx, t1, rfl, ht1⟩ := paired_at rt hv
      rw [List.getElem?_map] at hx
      obtain ⟨x, ex, rfl⟩ := Option.map_eq_some_iff.1 hx
      exact ⟨_, rfl, t1, x, rfl, ht1, rfl, _, rfl⟩
    · rintro σ H1 ⟨rfl, y2, rfl⟩
      refine ⟨_, rfl, l, _, rfl, .inl (.inl (.inl hl)), _, 2, rfl, rfl, _, rfl, ?_⟩
      rw [decide_eq_false (show ¬ ((ts.length : Nat) : Int) < 2 by omega)]
      refine iteF ⟨_, rfl, _, rfl, l, _, rfl, .inl ⟨.inl (.inl hl), fun u nu => ?_⟩⟩
      have s1 := same_upd (o := .tup ts) nu
      refine ⟨a, L, m, .ref u, xs, rfl, A1.same s1, hms, ⟨u, _, rfl, upd_same, rt.keep (Kt.of s1)⟩, fine, few, fun r er => (o r er).same s1, fun m' em q1 u' H' D' nu' A' W' => q m' em q1 u' H' (fun b z e n1 n2 n3 => D' b z (s1 _ _ e) n1 n2 n3) (s1.free nu') A' W'⟩
/-! ### taken back, done again -/
def Und (a : LgP) (H H' : Hp) : Prop := ∀ b o, H b = some o → b ≠ a.w → b ≠ a.d → b ≠ a.u → H' b = some o
/-- told, and new where it is a list -/
def Told (H H' : Hp) (v : V) (xs : List Dd) : Prop := ToAt H' v xs ∧ (xs.length ≠ 1 → ∃ D, v = .ref D ∧ H D = none)
theorem last_at {α : Type} {l : List α} {x : α} : (l ++ [x])[(l ++ [x]).length - 1]? = some x := by
  rw [List.length_append, show l.length + [x].length - 1 = l.length from rfl, List.getElem?_append_right (Nat.le_refl _), Nat.sub_self]
  rfl
def sp_lun (K : PySem.W.Frag) : Sp := fun vs H Q E => ∃ (a : LgP) (L : Lg), vs = [.ref a.p] ∧ LgAt K H a L ∧ L.done.length ≤ 900 ∧ L.und.length ≤ 900 ∧ (L.done = [] → Out0 H E (He.ga K "NothingBack") "NothingBack") ∧
  ∀ ds xs ms m, L.done = ds ++ [xs] → L.webs = ms ++ [m] → xs ≠ [] ∧ ∀ (v : V) (H' : Hp), Und a H H' → LgAt K H' a ⟨ms, ds, L.und ++ [(xs, m)]⟩ → Told H H' v xs → Q v H'
theorem metx_Log_undo (T : Tp K mg) : MetX P w K mg base 5 (CL K) "undo" (sp_lun K) := by
  obtain ⟨fd, F⟩ := f_Log_undo T
  refine metx_of F (cl_Log T) (me_Log_undo T) (b_Log_undo F) sc_Log_undo (fun vs H Q E h => ?_) (fun cdv A outer s H vs Q E hr h tk => ?_)
  · obtain ⟨a, L, rfl, _⟩ := h
    rfl
  · obtain ⟨a, L, rfl, A1, few, few2, o, q⟩ := h
    have hu := hu_of hr
    obtain ⟨ds, d1, d2⟩ := A1.done
    have ld : ds.length = L.done.length := Paired.length d2
    refine ⟨_, (pss_cons (ps_if (pt_cmpR op_eq (pe_callB call_len_seq (by rfl) (z_len T) bb_len (pa_cons (pe_fld (pv 0) rfl) pa_nil)) pe_int (nomark _)) (pss_one (ps_raise rfl tk (pmk_b0 (mkx_NothingBack T) hr (by decide) rfl))) pss_nil)
      (pss_cons (ps_set (i := 1) sc_Log_undo.nd rfl (.inl rfl) (pe_bm0 PySem.F.plainAttrs_list PySem.F.slot_list_pop PySem.F.type_list_pop mt_pop (pe_fld (pv 0) rfl)))
      (pss_cons (ps_expr (pe_bm PySem.F.plainAttrs_list PySem.F.slot_list_append PySem.F.type_list_append mt_append (pe_fld (pv 0) rfl) (pa_cons (pe_tup (pa_cons (pv 1) (pa_cons (pe_bm0 PySem.F.plainAttrs_list PySem.F.slot_list_pop PySem.F.type_list_pop mt_pop (pe_fld (pv 0) rfl)) pa_nil))) pa_nil)))
      (pss_one (ps_ret (C8.pe_c (cal_as_told T) hr (by decide) rfl (pa_cons (pv 1) pa_nil))))))), ?_⟩
    refine ⟨_, rfl, a.p, CL K, a.dx, _, _, rfl, A1.obj, cl_Log T, na_Log_done T, lf_d, a.d, _, rfl, .inl (.inl (.inl d1)), rfl, _, rfl, ?_⟩
    rcases List.eq_nil_or_concat L.done with e | ⟨ds0, xs, e⟩
    · have : ds.length = 0 := by rw [ld, e]; rfl
      rw [this]
      exact iteT (mk_out0 (o e))
    · rw [List.concat_eq_append] at e
      rw [decide_eq_false (show ¬ V.int ((ds.length : Nat) : Int) = V.int 0 from fun z => by have := V.int.inj z; rw [ld, e, List.length_append] at this; have h1 : [xs].length = 1 := rfl; omega)]
      rw [e] at d2
      obtain ⟨dv, y, rfl, d3, d4⟩ := paired_last d2
      obtain ⟨ms, m, em⟩ : ∃ ms m, L.webs = ms ++ [m] := by
        rcases List.eq_nil_or_concat L.webs with z | ⟨ms, m, z⟩
        · have := A1.len
          rw [z] at this
          cases this
        · exact ⟨ms, m, by rw [z, List.concat_eq_append]⟩
      obtain ⟨nx, q⟩ := q ds0 xs ms m e em
      obtain ⟨ws, w1, w2⟩ := A1.webs
      rw [em] at w2
      obtain ⟨wv, yq, rfl, w3, qw, rfl, W⟩ := paired_last w2
      obtain ⟨us, u1, u2⟩ := A1.und
      refine iteF ⟨_, rfl, a.p, CL K, a.dx, _, _, rfl, A1.obj, cl_Log T, na_Log_done T, lf_d, .inl ⟨rfl, _, .inl (.inl d1)⟩, a.d, _, _, rfl, rfl, d1, last_at, ?_⟩
      rw [List.dropLast_concat]
      have k1 : Kw K H (upd H a.d (.lst dv)) := .lst d1
      have np : a.p ≠ a.d := ne_of A1.obj d1 (fun z => nomatch z)
      have npw : a.p ≠ a.w := ne_of A1.obj w1 (fun z => nomatch z)
      have npu : a.p ≠ a.u := ne_of A1.obj u1 (fun z => nomatch z)
      have o1 : (upd H a.d (.lst dv)) a.p = some (.ins (CL K) a.dx (lf a.w a.d a.u)) := by rw [upd_ne np]; exact A1.obj
      have w4 : (upd H a.d (.lst dv)) a.w = some (.lst (wv ++ [.ref qw])) := by rw [upd_ne A1.nwd]; exact w1
      have u4 : (upd H a.d (.lst dv)) a.u = some (.lst us) := by rw [upd_ne A1.ndu.symm]; exact u1
      have d5 : (upd H a.d (.lst dv)) a.d = some (.lst dv) := upd_same
      have U1 : Und a H (upd H a.d (.lst dv)) := fun b x e n1 n2 n3 => by rw [upd_ne n2]; exact e
      generalize upd H a.d (.lst dv) = H1 at k1 o1 w4 u4 d5 U1 ⊢
      refine ⟨_, rfl, a.p, CL K, a.dx, _, _, rfl, o1, cl_Log T, na_Log_undone T, lf_u, .inl ⟨rfl, _, .inl (.inl u4)⟩, _, rfl, _, rfl, a.p, CL K, a.dx, _, _, rfl, o1, cl_Log T, na_Log_webs T, lf_w, .inl ⟨rfl, _, .inl (.inl w4)⟩, a.w, _, _, rfl, rfl, w4, last_at, ?_⟩
      rw [List.dropLast_concat]
      have k2 : Kw K H1 (upd H1 a.w (.lst wv)) := .lst w4
      have o2 : (upd H1 a.w (.lst wv)) a.p = some (.ins (CL K) a.dx (lf a.w a.d a.u)) := by rw [upd_ne npw]; exact o1
      have u5 : (upd H1 a.w (.lst wv)) a.u = some (.lst us) := by rw [upd_ne A1.nwu.symm]; exact u4
      have d6 : (upd H1 a.w (.lst wv)) a.d = some (.lst dv) := by rw [upd_ne A1.nwd.symm]; exact d5
      have w5 : (upd H1 a.w (.lst wv)) a.w = some (.lst wv) := upd_same
      have U2 : Und a H (upd H1 a.w (.lst wv)) := fun b x e n1 n2 n3 => by rw [upd_ne n1]; exact U1 b x e n1 n2 n3
      have k12 := k1.trans k2
      generalize upd H1 a.w (.lst wv) = H2 at k12 o2 u5 d6 w5 U2 ⊢
      refine ⟨(by show 2 ≤ sizeLine; decide), fun t nt => ?_⟩
      have s3 := same_upd (o := .tup [y, .ref qw]) nt
      have lu : us.length = L.und.length := Paired.length u2
      refine ⟨a.u, _, _, rfl, rfl, s3 _ _ u5, small1000 (by omega), ?_⟩
      have k4 : Kw K (upd H2 t (.tup [y, .ref qw])) (upd (upd H2 t (.tup [y, .ref qw])) a.u (.lst (us ++ [.ref t]))) := .lst (s3 _ _ u5)
      have gets : ∀ {b x}, H2 b = some x → b ≠ a.u → (upd (upd H2 t (.tup [y, .ref qw])) a.u (.lst (us ++ [.ref t]))) b = some x := fun e n => by
        rw [upd_ne n]
        exact s3 _ _ e
      have u6 : (upd (upd H2 t (.tup [y, .ref qw])) a.u (.lst (us ++ [.ref t]))) a.u = some (.lst (us ++ [.ref t])) := upd_same
      have t6 : (upd (upd H2 t (.tup [y, .ref qw])) a.u (.lst (us ++ [.ref t]))) t = some (.tup [y, .ref qw]) := by
        rw [upd_ne (ne_of_none u5 nt).symm]
        exact upd_same
      have k := k12.trans ((Kw.same s3).trans k4)
      have U3 : Und a H (upd (upd H2 t (.tup [y, .ref qw])) a.u (.lst (us ++ [.ref t]))) := fun b x e n1 n2 n3 => gets (U2 b x e n1 n2 n3) n3
      generalize upd (upd H2 t (.tup [y, .ref qw])) a.u (.lst (us ++ [.ref t])) = H3 at k gets u6 t6 U3 ⊢
      have hl := A1.len
      have A3 : LgAt K H3 a ⟨ms, ds0, L.und ++ [(xs, m)]⟩ := ⟨gets o2 npu, ⟨wv, gets w5 A1.nwu, k.webs w3⟩, ⟨dv, gets d6 A1.ndu, k.dones d3⟩, ⟨_, u6, Paired.snoc (k.uns u2) ⟨t, y, qw, rfl, t6, d4.kt k.kt, k.at W⟩⟩, A1.nwd, A1.nwu, A1.ndu, by
        rw [e, em, List.length_append, List.length_append] at hl
        exact Nat.succ.inj hl⟩
      have fresh : ∀ {D : Addr}, H3 D = none → (∀ z, z ≠ a.w → z ≠ a.d → z ≠ a.u → True) → D ≠ a.w → D ≠ a.d → D ≠ a.u → H D = none := fun {D} n _ n1 n2 n3 => by
        cases hz : H D with
        | none => rfl
        | some x =>
          have := U3 D x hz n1 n2 n3
          rw [n] at this
          cases this
      refine ⟨_, rfl, y, xs, rfl, d4.kt k.kt, nx, fun t1 x ex h1 => ?_, fun n1 D ts nD rt => ?_⟩
      · exact q _ _ U3 A3 ⟨.inl ⟨t1, x, ex, rfl, h1⟩, fun z => absurd (by rw [ex]; rfl) z⟩
      · have s4 := same_upd (o := .lst ts) nD
        refine q _ _ (fun b x e n1 n2 n3 => s4 _ _ (U3 b x e n1 n2 n3)) (A3.same s4) ⟨.inr ⟨n1, D, ts, rfl, upd_same, rt.keep (Kt.of s4)⟩, fun _ => ⟨D, rfl, fresh nD (fun _ _ _ _ => trivial) ?_ ?_ ?_⟩⟩
        · exact fun z => absurd (gets w5 A1.nwu) (by rw [← z, nD]; exact fun z => nomatch z)
        · exact fun z => absurd (gets d6 A1.ndu) (by rw [← z, nD]; exact fun z => nomatch z)
        · exact fun z => absurd u6 (by rw [← z, nD]; exact fun z => nomatch z)
def sp_lre (K : PySem.W.Frag) : Sp := fun vs H Q E => ∃ (a : LgP) (L : Lg), vs = [.ref a.p] ∧ LgAt K H a L ∧ L.done.length ≤ 900 ∧ (L.und = [] → Out0 H E (He.ga K "NothingBack") "NothingBack") ∧
  ∀ us xs m, L.und = us ++ [(xs, m)] → xs ≠ [] ∧ ∀ (v : V) (H' : Hp), Und a H H' → LgAt K H' a ⟨L.webs ++ [m], L.done ++ [xs], us⟩ → Told H H' v xs → Q v H'
theorem metx_Log_redo (T : Tp K mg) : MetX P w K mg base 5 (CL K) "redo" (sp_lre K) := by
  obtain ⟨fd, F⟩ := f_Log_redo T
  refine metx_of F (cl_Log T) (me_Log_redo T) (b_Log_redo F) sc_Log_redo (fun vs H Q E h => ?_) (fun cdv A outer s H vs Q E hr h tk => ?_)
  · obtain ⟨a, L, rfl, _⟩ := h
    rfl
  · obtain ⟨a, L, rfl, A1, few, o, q⟩ := h
    have hu := hu_of hr
    obtain ⟨us, u1, u2⟩ := A1.und
    have lu : us.length = L.und.length := Paired.length u2
    refine ⟨_, (pss_cons (ps_if (pt_cmpR op_eq (pe_callB call_len_seq (by rfl) (z_len T) bb_len (pa_cons (pe_fld (pv 0) rfl) pa_nil)) pe_int (nomark _)) (pss_one (ps_raise rfl tk (pmk_b0 (mkx_NothingBack T) hr (by decide) rfl))) pss_nil)
      (pss_cons (ps_asg (pe_bm0 PySem.F.plainAttrs_list PySem.F.slot_list_pop PySem.F.type_list_pop mt_pop (pe_fld (pv 0) rfl)) (pg_tup rfl (pgs_cons (pg_name (i := 1) sc_Log_redo.nd rfl (.inl rfl)) (pgs_cons (pg_name (i := 2) sc_Log_redo.nd rfl (.inl rfl)) pgs_nil))))
      (pss_cons (ps_expr (pe_bm PySem.F.plainAttrs_list PySem.F.slot_list_append PySem.F.type_list_append mt_append (pe_fld (pv 0) rfl) (pa_cons (pv 1) pa_nil)))
      (pss_cons (ps_expr (pe_bm PySem.F.plainAttrs_list PySem.F.slot_list_append PySem.F.type_list_append mt_append (pe_fld (pv 0) rfl) (pa_cons (pv 2) pa_nil)))
      (pss_one (ps_ret (C8.pe_c (cal_as_told T) hr (by decide) rfl (pa_cons (pv 1) pa_nil)))))))), ?_⟩
    refine ⟨_, rfl, a.p, CL K, a.dx, _, _, rfl, A1.obj, cl_Log T, na_Log_undone T, lf_u, a.u, _, rfl, .inl (.inl (.inl u1)), rfl, _, rfl, ?_⟩
    rcases List.eq_nil_or_concat L.und with e | ⟨us0, r, e⟩
    · have : us.length = 0 := by rw [lu, e]; rfl
      rw [this]
      exact iteT (mk_out0 (o e))
    · rw [List.concat_eq_append] at e
      rw [decide_eq_false (show ¬ V.int ((us.length : Nat) : Int) = V.int 0 from fun z => by have := V.int.inj z; rw [lu, e, List.length_append] at this; have h1 : [r].length = 1 := rfl; omega)]
      rw [e] at u2
      obtain ⟨xs, m⟩ := r
      obtain ⟨uv, yu, rfl, u3, t, y, qw, rfl, ht, dy, W⟩ := paired_last u2
      obtain ⟨nx, q⟩ := q us0 xs m e
      obtain ⟨ws, w1, w2⟩ := A1.webs
      obtain ⟨ds, d1, d2⟩ := A1.done
      have lw : ws.length = L.webs.length := Paired.length w2
      have ld : ds.length = L.done.length := Paired.length d2
      have hl := A1.len
      refine iteF ⟨_, rfl, a.p, CL K, a.dx, _, _, rfl, A1.obj, cl_Log T, na_Log_undone T, lf_u, .inl ⟨rfl, _, .inl (.inl u1)⟩, a.u, _, _, rfl, rfl, u1, last_at, ?_⟩
      rw [List.dropLast_concat]
      have np : a.p ≠ a.d := ne_of A1.obj d1 (fun z => nomatch z)
      have npw : a.p ≠ a.w := ne_of A1.obj w1 (fun z => nomatch z)
      have npu : a.p ≠ a.u := ne_of A1.obj u1 (fun z => nomatch z)
      have k1 : Kw K H (upd H a.u (.lst uv)) := .lst u1
      have o1 : (upd H a.u (.lst uv)) a.p = some (.ins (CL K) a.dx (lf a.w a.d a.u)) := by rw [upd_ne npu]; exact A1.obj
      have w4 : (upd H a.u (.lst uv)) a.w = some (.lst ws) := by rw [upd_ne A1.nwu]; exact w1
      have d4 : (upd H a.u (.lst uv)) a.d = some (.lst ds) := by rw [upd_ne A1.ndu]; exact d1
      have u5 : (upd H a.u (.lst uv)) a.u = some (.lst uv) := upd_same
      have U1 : Und a H (upd H a.u (.lst uv)) := fun b x e n1 n2 n3 => by rw [upd_ne n3]; exact e
      have ht1 := k1.kt _ _ ht
      generalize upd H a.u (.lst uv) = H1 at k1 o1 w4 d4 u5 U1 ht1 ⊢
      refine ⟨t, _, rfl, .inl (.inl ht1), rfl, _, _, rfl, _, _, rfl, rfl, ?_⟩
      refine ⟨_, rfl, a.p, CL K, a.dx, _, _, rfl, o1, cl_Log T, na_Log_done T, lf_d, .inl ⟨rfl, _, .inl (.inl d4)⟩, _, rfl, a.d, _, _, rfl, rfl, d4, small1000 (by omega), ?_⟩
      have k2 : Kw K H1 (upd H1 a.d (.lst (ds ++ [y]))) := .lst d4
      have o2 : (upd H1 a.d (.lst (ds ++ [y]))) a.p = some (.ins (CL K) a.dx (lf a.w a.d a.u)) := by rw [upd_ne np]; exact o1
      have w5 : (upd H1 a.d (.lst (ds ++ [y]))) a.w = some (.lst ws) := by rw [upd_ne A1.nwd]; exact w4
      have u6 : (upd H1 a.d (.lst (ds ++ [y]))) a.u = some (.lst uv) := by rw [upd_ne A1.ndu.symm]; exact u5
      have d5 : (upd H1 a.d (.lst (ds ++ [y]))) a.d = some (.lst (ds ++ [y])) := upd_same
      have U2 : Und a H (upd H1 a.d (.lst (ds ++ [y]))) := fun b x e n1 n2 n3 => by rw [upd_ne n2]; exact U1 b x e n1 n2 n3
      have k12 := k1.trans k2
      generalize upd H1 a.d (.lst (ds ++ [y])) = H2 at k12 o2 w5 u6 d5 U2 ⊢
      refine ⟨_, rfl, a.p, CL K, a.dx, _, _, rfl, o2, cl_Log T, na_Log_webs T, lf_w, .inl ⟨rfl, _, .inl (.inl w5)⟩, _, rfl, a.w, _, _, rfl, rfl, w5, small1000 (by omega), ?_⟩
      have k3 : Kw K H2 (upd H2 a.w (.lst (ws ++ [.ref qw]))) := .lst w5
      have gets : ∀ {b x}, H2 b = some x → b ≠ a.w → (upd H2 a.w (.lst (ws ++ [.ref qw]))) b = some x := fun e n => by
        rw [upd_ne n]
        exact e
      have w6 : (upd H2 a.w (.lst (ws ++ [.ref qw]))) a.w = some (.lst (ws ++ [.ref qw])) := upd_same
      have k := k12.trans k3
      have U3 : Und a H (upd H2 a.w (.lst (ws ++ [.ref qw]))) := fun b x e n1 n2 n3 => gets (U2 b x e n1 n2 n3) n1
      generalize upd H2 a.w (.lst (ws ++ [.ref qw])) = H3 at k gets w6 U3 ⊢
      have A3 : LgAt K H3 a ⟨L.webs ++ [m], L.done ++ [xs], us0⟩ := ⟨gets o2 npw, ⟨_, w6, Paired.snoc (k.webs w2) ⟨qw, rfl, k.at W⟩⟩, ⟨_, gets d5 A1.nwd.symm, Paired.snoc (k.dones d2) (dy.kt k.kt)⟩, ⟨uv, gets u6 A1.nwu.symm, k.uns u3⟩, A1.nwd, A1.nwu, A1.ndu, by
        show (L.webs ++ [m]).length = (L.done ++ [xs]).length + 1
        rw [List.length_append, List.length_append, hl]
        rfl⟩
      have fresh : ∀ {D : Addr}, H3 D = none → D ≠ a.w → D ≠ a.d → D ≠ a.u → H D = none := fun {D} n n1 n2 n3 => by
        cases hz : H D with
        | none => rfl
        | some x =>
          have := U3 D x hz n1 n2 n3
          rw [n] at this
          cases this
      refine ⟨_, rfl, y, xs, rfl, dy.kt k.kt, nx, fun t1 x ex h1 => ?_, fun n1 D ts nD rt => ?_⟩
      · exact q _ _ U3 A3 ⟨.inl ⟨t1, x, ex, rfl, h1⟩, fun z => absurd (by rw [ex]; rfl) z⟩
      · have s4 := same_upd (o := .lst ts) nD
        refine q _ _ (fun b x e n1 n2 n3 => s4 _ _ (U3 b x e n1 n2 n3)) (A3.same s4) ⟨.inr ⟨n1, D, ts, rfl, upd_same, rt.keep (Kt.of s4)⟩, fun _ => ⟨D, rfl, fresh nD ?_ ?_ ?_⟩⟩
        · exact fun z => absurd w6 (by rw [← z, nD]; exact fun z => nomatch z)
        · exact fun z => absurd (gets d5 A1.nwd.symm) (by rw [← z, nD]; exact fun z => nomatch z)
        · exact fun z => absurd (gets u6 A1.nwu.symm) (by rw [← z, nD]; exact fun z => nomatch z)
/-! ### deeds told -/
/-- a deed, or a list that is new since H0 and not D -/
def Tl (H0 : Hp) (D : Addr) (H : Hp) (v : V) (xs : List Dd) : Prop := ToAt H v xs ∧ (xs.length ≠ 1 → ∃ d, v = .ref d ∧ H0 d = none ∧ d ≠ D) ∧ v ≠ .ref D
theorem Tl.keep {H0 H H' : Hp} {D : Addr} {v : V} {xs : List Dd} (h : Tl H0 D H v xs) (k : ∀ b o, H b = some o → b ≠ D → H' b = some o) (hD : ∃ ys, H D = some (.lst ys)) : Tl H0 D H' v xs := by
  obtain ⟨ys, hD⟩ := hD
  have kt : Kt H H' := fun b zs e => k _ _ e (ne_of e hD (fun z => nomatch z))
  obtain ⟨h1, h2, h3⟩ := h
  refine ⟨?_, h2, h3⟩
  rcases h1 with ⟨t, x, ex, ev, ht⟩ | ⟨n1, d, ts, ev, hd, rt⟩
  · exact .inl ⟨t, x, ex, ev, kt _ _ ht⟩
  · exact .inr ⟨n1, d, ts, ev, k _ _ hd (fun z => h3 (by rw [ev, z])), rt.keep kt⟩
def sp_lds (K : PySem.W.Frag) : Sp := fun vs H Q _ => ∃ (a : LgP) (L : Lg), vs = [.ref a.p] ∧ LgAt K H a L ∧ L.done.length ≤ 900 ∧ (∀ xs ∈ L.done, xs ≠ []) ∧ ∀ (D : Addr) (acc : List V) (H' : Hp), Same H H' → H D = none → H' D = some (.lst acc) → Paired (Tl H D H') acc L.done → Q (.ref D) H'
theorem met_Log_deeds (T : Tp K mg) : Met P w K mg base 3 (CL K) "deeds" (sp_lds K) := by
  obtain ⟨fd, F⟩ := f_Log_deeds T
  refine met_of F (cl_Log T) (me_Log_deeds T) (b_Log_deeds F) sc_Log_deeds (fun vs H Q E h => ?_) (fun cdv A outer s H vs Q E hr h => ?_)
  · obtain ⟨a, L, rfl, _⟩ := h
    rfl
  · obtain ⟨a, L, rfl, A1, few, ne, q⟩ := h
    obtain ⟨ds, d1, d2⟩ := A1.done
    have ld : ds.length = L.done.length := Paired.length d2
    refine ⟨_, (pss_one (ps_ret (pe_lc (own := [("deeds", 1)]) (g := gName 1) (tt := tYes) rfl sc_Log_deeds.nd (pi_list (pe_fld (pv 0) rfl)) (blkOk_by (N := N_Log_deeds) (sc := defScope s_Log_deeds) (by decide +kernel)) (fun _ _ _ _ _ => (pg_name (i := 1) sc_Log_deeds.nd rfl (.inl rfl))) (fun _ _ _ _ _ => pts_nil) (fun _ _ _ _ _ => (C8.pe_c (cal_as_told T) hr (by decide) rfl (pa_cons (pv 1) pa_nil)))))), ?_⟩
    refine ⟨_, rfl, a.p, CL K, a.dx, _, _, rfl, A1.obj, cl_Log T, na_Log_done T, lf_d, a.d, rfl, ⟨_, .inl (.inl d1)⟩, fun D nD => ?_⟩
    have nDd : D ≠ a.d := (ne_of_none d1 nD).symm
    refine lc_it (walk_list (K := K) (a := a.d) (xs := ds)) (fun i Hc => Same H Hc ∧ ∃ acc, Hc D = some (.lst acc) ∧ Paired (Tl H D Hc) acc (L.done.take i)) ⟨same_upd nD, [], upd_same, .nil⟩ (fun _ Hc _ h => .inl (.inl (h.1 _ _ d1))) ?_ ?_
    · rintro i x Hc Hx hi ⟨s1, acc, hD, pa⟩ ⟨rfl, hx⟩
      obtain ⟨xs, ex, dx⟩ := paired_at d2 hx
      have lacc : acc.length ≤ i := by
        rw [Paired.length pa]
        exact List.length_take_le _ _
      have hi' : i < ds.length := (List.getElem?_eq_some_iff.1 hx).1
      have e2 : L.done.take (i + 1) = L.done.take i ++ [xs] := by rw [List.take_add_one, ex]; rfl
      have fin : ∀ (y : V) (H4 : Hp), Same Hx H4 → Tl H D H4 y xs → ∃ acc, H4 D = some (.lst acc) ∧ acc.length < sizeLine ∧ (Same H (upd H4 D (.lst (acc ++ [y]))) ∧ ∃ acc2, (upd H4 D (.lst (acc ++ [y]))) D = some (.lst acc2) ∧ Paired (Tl H D (upd H4 D (.lst (acc ++ [y])))) acc2 (L.done.take (i + 1))) := fun y H4 s4 ty => by
        have hD4 := s4 _ _ hD
        have kk : ∀ b o, H4 b = some o → b ≠ D → (upd H4 D (.lst (acc ++ [y]))) b = some o := fun b o e n => by
          rw [upd_ne n]
          exact e
        refine ⟨acc, hD4, small1000 (by omega), fun b o e => kk _ _ (s4 _ _ (s1 _ _ e)) (ne_of_none e nD), _, upd_same, ?_⟩
        rw [e2]
        exact Paired.snoc (pa.mono fun _ _ t => (t.keep (fun b o e _ => s4 _ _ e) ⟨_, hD⟩).keep kk ⟨_, hD4⟩) (ty.keep kk ⟨_, hD4⟩)
      refine ⟨rfl, yes_i (iteT ?_)⟩
      refine ⟨_, rfl, x, xs, rfl, dx.kt (Kt.of s1), ne xs (List.mem_of_getElem? ex), fun t y ey ht => fin _ _ (Same.refl _) ⟨.inl ⟨t, y, ey, rfl, ht⟩, fun z => absurd (by rw [ey]; rfl) z, fun z => ?_⟩, fun n1 D2 ts nD2 rt => fin _ _ (same_upd nD2) ⟨.inr ⟨n1, D2, ts, rfl, upd_same, rt.keep (Kt.of (same_upd nD2))⟩, fun _ => ⟨D2, rfl, s1.free nD2, (ne_of_none hD nD2).symm⟩, fun z => (ne_of_none hD nD2).symm (V.ref.inj z)⟩⟩
      rw [V.ref.inj z] at ht
      rw [hD] at ht
      cases ht
    · rintro Hc ⟨s1, acc, hD, pa⟩
      rw [ld, List.take_length] at pa
      exact q D acc Hc s1 nD hD pa
/-! ### a new log -/
theorem lp1 {v : V} : putF "webs" v ([] : List (Str × V)) = ([("webs", v)] : List (Str × V)) := rfl
theorem lp2 {v x : V} : putF "done" v ([("webs", x)] : List (Str × V)) = ([("webs", x), ("done", v)] : List (Str × V)) := by
  simp only [putF, if_neg (show ¬ (("webs" : Str) = "done") by decide +kernel)]
theorem lp3 {v x y : V} : putF "undone" v ([("webs", x), ("done", y)] : List (Str × V)) = ([("webs", x), ("done", y), ("undone", v)] : List (Str × V)) := by
  simp only [putF, if_neg (show ¬ (("webs" : Str) = "undone") by decide +kernel), if_neg (show ¬ (("done" : Str) = "undone") by decide +kernel)]
theorem sb_same {p : Addr} {H H1 H2 : Hp} (s : Sb p H H1) (t : Same H1 H2) : Sb p H H2 := fun b o e n => t _ _ (s b o e n)
theorem sb_free2 {p b : Addr} {H H1 : Hp} (s : Sb p H H1) (n : b ≠ p) (h : H1 b = none) : H b = none := by
  cases e : H b with
  | none => rfl
  | some x =>
    have := s b x e n
    rw [h] at this
    cases this
theorem fld_set {C dx p : Addr} {H H1 : Hp} {f f' : List (Str × V)} (e : f = f') (sb : Sb p H H1) : Sb p H (upd H1 p (.ins C dx f)) ∧ upd H1 p (.ins C dx f) p = some (.ins C dx f') ∧ Sb p H1 (upd H1 p (.ins C dx f)) := ⟨fun b x e n => by rw [upd_ne n]; exact sb b x e n, up_eq (by rw [e]), fun b x e n => by rw [upd_ne n]; exact e⟩
theorem kw_fld {K : PySem.W.Frag} {C dx p : Addr} {H : Hp} {f f' : List (Str × V)} (h : H p = some (.ins C dx f)) (n : ∀ {l a b c}, f = wf l a b c → False) : Kw K H (upd H p (.ins C dx f')) := ⟨fun b zs e => by
  rw [upd_ne (ne_of e h (fun z => nomatch z))]
  exact e, fun b dx' l a1 b1 c1 e => by
  rw [upd_ne (ne_of e h (fun z => by injection z with _ _ e3; exact n e3.symm))]
  exact e⟩
def mdE (l : Int) : Md := ⟨l, [], [], []⟩
def Lg.new (l : Int) : Lg := ⟨[mdE l], [], []⟩
def sp_lini (K : PySem.W.Frag) : Sp := fun vs H Q _ => ∃ (p dx : Addr) (l : Int), vs = [.ref p, .int l] ∧ H p = some (.ins (CL K) dx []) ∧ 1 ≤ l ∧ l ≤ 1000 ∧ ∀ (a : LgP) (H' : Hp), a.p = p → Sb p H H' → H a.w = none → H a.d = none → H a.u = none → LgAt K H' a (Lg.new l) → Q .non H'
theorem fn_lini (T : Tp K mg) {fd : FuncData} (F : FunD K "__init__" "Log.__init__" (defArgs s_Log_UinitU) (defBody s_Log_UinitU) (defScope s_Log_UinitU) [(V.int 100 : V)] [] (He.ma K (He.ga K "Log") "__init__") fd) :
    FnOk P w K mg base CX0 6 (He.ma K (He.ga K "Log") "__init__") fd ["self", "by"] (sp_lini K) := by
  refine fnok_of F sc_Log_UinitU (fun vs H Q E h => ?_) (fun cdv A outer s H vs Q E hr h => ?_)
  · obtain ⟨p, dx, l, rfl, _⟩ := h
    rfl
  · obtain ⟨p, dx, l, rfl, hp, l1, l2, q⟩ := h
    refine ⟨_, (pss_cons (ps_fld (pv 0) (pe_lst (pa_cons (C8.pe_mk (mak_Web T) hr (by decide) rfl (pa_cons (pv 1) pa_nil)) pa_nil)) rfl)
      (pss_cons (ps_fld (pv 0) (pe_lst pa_nil) rfl)
      (pss_one (ps_fld (pv 0) (pe_lst pa_nil) rfl)))), ?_⟩
    refine ⟨_, rfl, fun x dx1 nx ndx ne => ⟨x, dx1, l, rfl, upd_same, l1, l2, fun a0 b0 c0 H1 kp hx ha hb hc => ⟨rfl, ?_⟩⟩⟩
    have s1 : Same H H1 := Same.made nx ndx kp
    have W1 : WebAt (CW K) H1 x (mdE l) := ⟨⟨dx1, a0, b0, c0, [], [], hx, ha, hb, .nil, hc, .nil⟩, ⟨Nat.zero_le _, Nat.zero_le _, Nat.zero_le _⟩, ⟨l1, l2⟩⟩
    refine ⟨(by show 1 ≤ sizeLine; decide), fun w0 nw => ?_⟩
    have nwp : w0 ≠ p := fun z => by
      rw [z, s1 _ _ hp] at nw
      cases nw
    have s2 := s1.trans (same_upd (o := .lst [.ref x]) nw)
    have hw2 : (upd H1 w0 (.lst [.ref x])) w0 = some (.lst [.ref x]) := upd_same
    have W2 := W1.same (same_upd (o := .lst [.ref x]) nw)
    have nwH := s1.free nw
    generalize upd H1 w0 (.lst [.ref x]) = H2 at s2 hw2 W2 ⊢
    refine ⟨_, rfl, p, CL K, dx, _, rfl, s2 _ _ hp, cl_Log T, na_Log_webs T, (by show 0 < 1000; decide), ?_⟩
    obtain ⟨sb3, hp3, t3⟩ := fld_set (C := CL K) (dx := dx) (lp1 (v := .ref w0)) (sb_same (p := p) (fun _ _ e _ => e) s2)
    have hw3 := t3 _ _ hw2 nwp
    have k3 : Kw K H2 (upd H2 p (.ins (CL K) dx (putF "webs" (.ref w0) []))) := kw_fld (s2 _ _ hp) (fun z => nomatch z)
    generalize upd H2 p (.ins (CL K) dx (putF "webs" (.ref w0) [])) = H3 at sb3 hp3 hw3 k3 ⊢
    refine ⟨Nat.zero_le _, fun d0 nd => ?_⟩
    have ndp : d0 ≠ p := fun z => by rw [z, hp3] at nd; cases nd
    have nwd : w0 ≠ d0 := ne_of_none hw3 nd
    have s4 := same_upd (o := .lst []) nd
    have hd4 : (upd H3 d0 (.lst [])) d0 = some (.lst []) := upd_same
    have ndH : H d0 = none := sb_free2 sb3 ndp nd
    have sb4 := sb_same sb3 s4
    have hp4 := s4 _ _ hp3
    have hw4 := s4 _ _ hw3
    have k4 := k3.trans (.same s4)
    generalize upd H3 d0 (.lst []) = H4 at sb4 hp4 hw4 hd4 k4 ⊢
    refine ⟨_, rfl, p, CL K, dx, _, rfl, hp4, cl_Log T, na_Log_done T, (by show 1 < 1000; decide), ?_⟩
    obtain ⟨sb5, hp5, t5⟩ := fld_set (C := CL K) (dx := dx) (lp2 (v := .ref d0) (x := .ref w0)) sb4
    have hw5 := t5 _ _ hw4 nwp
    have hd5 := t5 _ _ hd4 ndp
    have k5 := k4.trans (kw_fld (f' := putF "done" (.ref d0) [("webs", .ref w0)]) hp4 (fun z => absurd (List.cons.inj (show ([("webs", V.ref w0)] : List (Str × V)) = wf _ _ _ _ from z)).2 (fun z => nomatch z)))
    generalize upd H4 p (.ins (CL K) dx (putF "done" (.ref d0) [("webs", .ref w0)])) = H5 at sb5 hp5 hw5 hd5 k5 ⊢
    refine ⟨Nat.zero_le _, fun u0 nu => ?_⟩
    have nup : u0 ≠ p := fun z => by rw [z, hp5] at nu; cases nu
    have nwu : w0 ≠ u0 := ne_of_none hw5 nu
    have ndu : d0 ≠ u0 := ne_of_none hd5 nu
    have s6 := same_upd (o := .lst []) nu
    have hu6 : (upd H5 u0 (.lst [])) u0 = some (.lst []) := upd_same
    have nuH : H u0 = none := sb_free2 sb5 nup nu
    have sb6 := sb_same sb5 s6
    have hp6 := s6 _ _ hp5
    have hw6 := s6 _ _ hw5
    have hd6 := s6 _ _ hd5
    have k6 := k5.trans (.same s6)
    generalize upd H5 u0 (.lst []) = H6 at sb6 hp6 hw6 hd6 hu6 k6 ⊢
    refine ⟨_, rfl, p, CL K, dx, _, rfl, hp6, cl_Log T, na_Log_undone T, (by show 2 < 1000; decide), ?_⟩
    obtain ⟨sb7, hp7, t7⟩ := fld_set (C := CL K) (dx := dx) (lp3 (v := .ref u0) (x := .ref w0) (y := .ref d0)) sb6
    have hw7 := t7 _ _ hw6 nwp
    have hd7 := t7 _ _ hd6 ndp
    have hu7 := t7 _ _ hu6 nup
    have k7 := k6.trans (kw_fld (f' := putF "undone" (.ref u0) [("webs", .ref w0), ("done", .ref d0)]) hp6 (fun z => absurd (List.cons.inj (List.cons.inj (show ([("webs", V.ref w0), ("done", V.ref d0)] : List (Str × V)) = wf _ _ _ _ from z)).2).2 (fun z => nomatch z)))
    generalize upd H6 p (.ins (CL K) dx (putF "undone" (.ref u0) [("webs", .ref w0), ("done", .ref d0)])) = H7 at sb7 hp7 hw7 hd7 hu7 k7 ⊢
    exact q ⟨p, dx, w0, d0, u0⟩ H7 rfl sb7 nwH ndH nuH ⟨hp7, ⟨_, hw7, .cons ⟨x, rfl, k7.at W2⟩ .nil⟩, ⟨_, hd7, .nil⟩, ⟨_, hu7, .nil⟩, nwd, nwu, ndu, rfl⟩
theorem mak0_Log (T : Tp K mg) : Mak P w K mg base 6 "Log" (CL K) (sp_lini K) [.int 100] := by
  obtain ⟨fd, F⟩ := f_Log_UinitU T
  obtain ⟨ds, hv, hb⟩ := F.binds1 (ps := ["self", "by"]) 1 0 (by simp) rfl fun T kV doc pm an cdv ct us its h1 h2 => match us, its, h1, h2 with
    | [_], [_], _, _ => ⟨_, rfl, rfl⟩
  exact ⟨_, fd, ["self", "by"], ds, mk_Log T, fn_lini T F, g_Log T, hb, hv⟩
end
end Tw

set_option maxHeartbeats 4000000
namespace Tw
open PySem PySem.Spec PyProof.Rows L2
/-! the law's own of deeds -/
theorem sign_in : ∀ c ∈ letters.cps.toList, (!decide (([c] : List _) < ("a" : Str).cps.toList)) = true ∧ (!decide (("z" : Str).cps.toList < ([c] : List _))) = true := by decide +kernel
section
variable {P : Program} {w : World} {K : PySem.W.Frag} {mg : Str → Option Value} {base : Heap}
def sp_ngood : Sp := fun vs H Q _ => ∃ z : Str, vs = [.str z] ∧ Nm z ∧ ∀ H', Same H H' → Q (.bl true) H'
theorem cal__law_name_good (T : Tp K mg) : Cal P w K mg base 2 "_law_name_good" sp_ngood := by
  obtain ⟨fd, F⟩ := f__law_name_good T
  refine cal_of F (g__law_name_good T) (b__law_name_good F) sc__law_name_good (fun vs H Q E h => ?_) (fun cdv A outer s H vs Q E hr h => ?_)
  · obtain ⟨z, rfl, _⟩ := h
    rfl
  · obtain ⟨z, rfl, ⟨n1, n2, n3⟩, q⟩ := h
    refine ⟨_, (pss_cons (ps_if (pt_not (pt_chain op_le op_le pe_int (pe_callB call_len_str (by rfl) (z_len T) bb_len (pa_cons (pv 0) pa_nil)) pe_int)) (pss_one (ps_ret pe_bl)) pss_nil)
      (pss_one (ps_ret (pe_callB (cr_all rfl) (by rfl) (z_all T) bb_all (pa_cons (pe_lc (own := [("_law_sign", 1)]) (g := gName 1) (tt := tYes) rfl sc__law_name_good.nd (pi_str (pv 0)) (blkOk_by (N := N__law_name_good) (sc := defScope s__law_name_good) (by decide +kernel)) (fun _ _ _ _ _ => (pg_name (i := 1) sc__law_name_good.nd rfl (.inl rfl))) (fun _ _ _ _ _ => pts_nil) (fun _ _ _ _ _ => (pe_chain op_le_str op_le_str pe_str (pv 1) pe_str))) pa_nil))))), ?_⟩
    refine ⟨_, rfl, _, rfl, Nat.le_of_lt (small1000 (by omega)), _, _, rfl, rfl, _, rfl, ?_⟩
    rw [decide_eq_true (show (1 : Int) ≤ (z.length : Int) by omega)]
    refine iteT ⟨_, _, rfl, rfl, _, rfl, ?_⟩
    rw [decide_eq_true (show (z.length : Int) ≤ 8 by omega)]
    refine iteF ?_
    refine ⟨_, rfl, _, rfl, fun D nD => ?_⟩
    refine lc_it walk_str (fun i H1 => Same H H1 ∧ H1 D = some (.lst ((List.replicate i true).map V.bl))) ⟨same_upd nD, upd_same⟩ (fun _ _ _ _ => trivial) ?_ ?_
    · rintro i x H1 H2 hi ⟨s1, d1⟩ ⟨rfl, c, hc, rfl⟩
      have hc' : z.cps.toList[i]? = some c := by
        rw [Array.getElem?_toList]
        exact hc
      obtain ⟨k1, k2⟩ := sign_in c (n3 c (List.mem_of_getElem? hc'))
      have hi' : i < z.cps.toList.length := (List.getElem?_eq_some_iff.mp hc').1
      have hz : z.cps.toList.length = z.length := Array.length_toList
      refine ⟨rfl, yes_i (iteT ?_)⟩
      refine ⟨_, rfl, ("a" : Str), ⟨#[c]⟩, rfl, rfl, _, rfl, ?_⟩
      rw [show (!decide (((⟨#[c]⟩ : Str).cps.toList) < ("a" : Str).cps.toList)) = true from k1]
      refine iteT ⟨⟨#[c]⟩, ("z" : Str), rfl, rfl, ?_⟩
      rw [show (!decide (("z" : Str).cps.toList < ((⟨#[c]⟩ : Str).cps.toList))) = true from k2]
      refine ⟨_, d1, ?_, ?_, ?_⟩
      · rw [List.length_map, List.length_replicate]
        exact small1000 (by omega)
      · exact same_put s1 nD
      · rw [upd_same, List.replicate_succ', List.map_append]
        rfl
    · rintro H1 ⟨s1, d1⟩
      refine ⟨D, List.replicate z.cps.size true, rfl, .inl (.inl d1), ?_⟩
      rw [show (List.replicate z.cps.size true).all id = true by simp]
      exact q H1 s1
def newW (m : Md) (z : Str) : Str := if z ∈ m.pts then "Taken" else ""
theorem newW_in {m : Md} {z : Str} (h : z ∈ m.pts) : newW m z = "Taken" := if_pos h
theorem newW_no {m : Md} {z : Str} (h : ¬ z ∈ m.pts) : newW m z = "" := if_neg h
def sp_newd : Sp := fun vs H Q _ => ∃ (d : Addr) (m : Md) (z : Str), vs = [.ref d, .str z] ∧ MdAt H d m ∧ m.own.length ≤ 14 ∧ m.wd.length ≤ 14 ∧ Nm z ∧ ∀ H', Same H H' → Q (.str (newW m z)) H'
theorem cal__law_new_due (T : Tp K mg) : Cal P w K mg base 3 "_law_new_due" sp_newd := by
  obtain ⟨fd, F⟩ := f__law_new_due T
  refine cal_of F (g__law_new_due T) (b__law_new_due F) sc__law_new_due (fun vs H Q E h => ?_) (fun cdv A outer s H vs Q E hr h => ?_)
  · obtain ⟨d, m, z, rfl, _⟩ := h
    rfl
  · obtain ⟨d, m, z, rfl, M, l1, l2, nz, q⟩ := h
    refine ⟨_, (pss_cons (ps_if (pt_not (pt_val (C8.pe_c (cal__law_name_good T) hr (by decide) rfl (pa_cons (pv 1) pa_nil)))) (pss_one (ps_ret pe_str)) pss_nil)
      (pss_one (ps_ret (pe_ifExp (pt_cmpR op_in_seq (pv 1) (C8.pe_c (cal__law_points T) hr (by decide) rfl (pa_cons (pv 0) pa_nil)) (by rfl)) pe_str pe_str)))), ?_⟩
    refine ⟨_, rfl, z, rfl, nz, fun H1 s1 => ⟨_, rfl, iteF ?_⟩⟩
    refine ⟨_, rfl, _, rfl, d, m, rfl, M.same s1, l1, l2, fun l H2 s2 nl hl => ⟨l, _, rfl, .inl (.inl (.inl hl)), rfl, flat_strs _, _, rfl, ?_⟩⟩
    show if inV (.str z) (m.pts.map V.str) = true then _ else _
    rw [in_strs]
    have q := q H2 (s1.trans s2)
    by_cases hz : z ∈ m.pts
    · rw [decide_eq_true hz]
      rw [newW_in hz] at q
      exact iteT q
    · rw [decide_eq_false hz]
      rw [newW_no hz] at q
      exact iteF q
end
/-- what the laws say of a deed -/
def Dd.wrd (m : Md) (x : Dd) : Str := match x.no m with
  | none => ""
  | some r => r.1
theorem wrd_some {m : Md} {x : Dd} {r : Rf} (h : x.no m = some r) : x.wrd m = r.1 := by
  unfold Dd.wrd
  rw [h]
theorem wrd_none {m : Md} {x : Dd} (h : x.no m = none) : x.wrd m = "" := by
  unfold Dd.wrd
  rw [h]
/-- its names are names -/
def Dd.Ns : Dd → Prop
  | .mom z => Nm z
  | .span x => Nm x.en ∧ Nm x.bg
  | .tie x => Nm x.one ∧ Nm x.oth
  | .wo z => Nm z
  | _ => True
theorem Dd.Ns.fine {x : Dd} (h : x.Ns) : x.Fine := by
  cases x with
  | mom z => exact nm_len h
  | span x => exact nm_len h.1
  | _ => trivial
/-- a web that deeds have made -/
structure DOk (m : Md) : Prop where
  last : 1 ≤ m.last ∧ m.last ≤ 1000
  nd : m.pts.Nodup
  nm : ∀ z ∈ m.pts, Nm z
  bg : ∀ x ∈ m.wd, x.bg ∈ ("start" : Str) :: m.own
  ti : ∀ x ∈ m.bd, x.one ∈ m.pts ∧ x.oth ∈ m.pts
  len : m.own.length ≤ 10 ∧ m.wd.length ≤ 4 ∧ m.bd.length ≤ 40
theorem DOk.bgp {m : Md} (k : DOk m) {x : Wd} (h : x ∈ m.wd) : x.bg ∈ m.pts := by
  rcases List.mem_cons.1 (k.bg x h) with e | e
  · rw [e]
    exact List.mem_cons_self
  · exact List.mem_cons_of_mem _ (List.mem_append_left _ e)
theorem DOk.wdV {m : Md} (k : DOk m) : ∀ r ∈ m.wd.map Wd.row, r.all okV = true := fun r hr => by
  obtain ⟨x, hx, rfl⟩ := List.mem_map.1 hr
  have n1 := k.nm _ (List.mem_cons_of_mem _ (List.mem_append_right m.own (List.mem_map_of_mem (f := (·.en)) hx)))
  have n2 := k.nm _ (k.bgp hx)
  unfold Wd.row
  simp only [List.all_cons, List.all_nil, Bool.and_true]
  rw [show okV (.str x.en) = true from nm_ok n1, show okV (.str x.bg) = true from nm_ok n2]
  cases x.la <;> rfl
theorem DOk.bdV {m : Md} (k : DOk m) : ∀ r ∈ m.bd.map Bd.row, r.all okV = true := fun r hr => by
  obtain ⟨x, hx, rfl⟩ := List.mem_map.1 hr
  obtain ⟨h1, h2⟩ := k.ti x hx
  unfold Bd.row
  simp only [List.all_cons, List.all_nil, Bool.and_true]
  rw [show okV (.str x.one) = true from nm_ok (k.nm _ h1), show okV (.str x.oth) = true from nm_ok (k.nm _ h2)]
  cases x.bot <;> cases x.top <;> rfl
theorem DOk.nst {m : Md} (k : DOk m) : ¬ ("start" : Str) ∈ m.own ++ m.wd.map (·.en) := (List.nodup_cons.1 k.nd).1
section
variable {P : Program} {w : World} {K : PySem.W.Frag} {mg : Str → Option Value} {base : Heap}
/-- a deed's word -/
def sp_spw : Sp := fun vs H Q _ => ∃ (d t : Addr) (m : Md) (y : Wd), vs = [.ref d, .ref t] ∧ MdAt H d m ∧ DOk m ∧ H t = some (.tup (Dd.span y).row) ∧ Nm y.en ∧ ∀ H', Same H H' → Q (.str ((Dd.span y).wrd m)) H'
theorem cal__law_span_word (T : Tp K mg) : Cal P w K mg base 4 "_law_span_word" sp_spw := by
  obtain ⟨fd, F⟩ := f__law_span_word T
  refine cal_of F (g__law_span_word T) (b__law_span_word F) sc__law_span_word (fun vs H Q E h => ?_) (fun cdv A outer s H vs Q E hr h => ?_)
  · obtain ⟨d, t, m, y, rfl, _⟩ := h
    rfl
  · obtain ⟨d, t, m, y, rfl, M, ok, ht, ny, q⟩ := h
    have hu := hu_of hr
    obtain ⟨l1, l2, l3⟩ := ok.len
    have nb := nmB_ok.2 ny
    refine ⟨_, (pss_cons (ps_asg (pe_slice sl_tupU (pv 1) (po_some pe_int) po_none) (pg_tup rfl (pgs_cons (pg_name (i := 2) sc__law_span_word.nd rfl (.inl rfl)) (pgs_cons (pg_name (i := 3) sc__law_span_word.nd rfl (.inl rfl)) (pgs_cons (pg_name (i := 4) sc__law_span_word.nd rfl (.inl rfl)) (pgs_cons (pg_name (i := 5) sc__law_span_word.nd rfl (.inl rfl)) (pgs_cons (pg_name (i := 6) sc__law_span_word.nd rfl (.inl rfl)) pgs_nil)))))))
      (pss_cons (ps_if (pt_cmpR op_ne (C8.pe_c (cal__law_new_due T) hr (by decide) rfl (pa_cons (pv 0) (pa_cons (pv 2) pa_nil))) pe_str (nomark _)) (pss_one (ps_ret (C8.pe_c (cal__law_new_due T) hr (by decide) rfl (pa_cons (pv 0) (pa_cons (pv 2) pa_nil))))) pss_nil)
      (pss_cons (ps_if (pt_cmpR op_notIn_seq (pv 3) (pe_op op_cat (pe_lst (pa_cons pe_str pa_nil)) (pe_dget hu (pv 0) pe_str (fun _ _ => rfl))) (by rfl)) (pss_one (ps_ret pe_str)) pss_nil)
      (pss_cons (ps_if (PW.pt (pw_or (pt_not (pt_val (C8.pe_c (cal__law_whole T) hr (by decide) rfl (pa_cons (pv 4) (pa_cons pe_int (pa_cons pe_int pa_nil)))))) (pw_or (pt_not (pt_val (C8.pe_c (cal__law_whole T) hr (by decide) rfl (pa_cons (pv 5) (pa_cons pe_int (pa_cons pe_int pa_nil)))))) (pw_or1 (pt_cmpR op_gt (pv 4) (pv 5) (nomark _)))))) (pss_one (ps_ret pe_str)) pss_nil)
      (pss_cons (ps_if (PW.pt (pw_and (pt_cmpR op_notN (pv 6) pe_non (nomark _)) (pw_and1 (pt_not (pt_val (C8.pe_c (cal__law_whole T) hr (by decide) rfl (pa_cons (pv 6) (pa_cons pe_int (pa_cons pe_int pa_nil))))))))) (pss_one (ps_ret pe_str)) pss_nil)
      (pss_one (ps_ret (pe_ifExp (pt_cmpR op_gt (pe_callB call_len_seq (by rfl) (z_len T) bb_len (pa_cons (pe_dget hu (pv 0) pe_str (fun _ _ => rfl)) pa_nil)) pe_int (nomark _)) pe_str pe_str)))))))), ?_⟩
    refine ⟨_, rfl, 1, rfl, t, _, rfl, ht, fun p H1 s1 hp => ⟨p, _, rfl, .inl (.inl hp), rfl, _, _, rfl, _, _, rfl, _, _, rfl, _, _, rfl, _, _, rfl, rfl, ?_⟩⟩
    have M1 := M.same s1
    have say : ∀ {r : Rf} {H' : Hp}, Same H H' → (Dd.span y).no m = some r → Q (.str r.1) H' := fun {r H'} s e => by
      have q := q H' s
      rw [wrd_some e] at q
      exact q
    refine ⟨_, rfl, _, rfl, d, m, y.en, rfl, M1, by omega, by omega, ny, fun H2 s2 => ⟨rfl, _, rfl, ?_⟩⟩
    have sA := s1.trans s2
    by_cases hz : y.en ∈ m.pts
    · rw [newW_in hz]
      refine iteT ⟨_, rfl, _, rfl, d, m, y.en, rfl, M.same sA, by omega, by omega, ny, fun H3 s3 => ?_⟩
      rw [newW_in hz]
      exact say (r := rf1 "Taken" "name" (.str y.en)) (sA.trans s3) (by simp [Dd.no, nb, hz])
    · rw [newW_no hz]
      refine iteF ?_
      obtain ⟨o, u, b, ws, bs, h1, h2, h3, h4, h5, h6, h7⟩ := (M.same sA).ex
      refine ⟨_, rfl, (by show 1 ≤ sizeLine; decide), fun l nl => ?_⟩
      have t3 := same_upd (o := .lst [.str "start"]) nl
      refine ⟨_, rfl, d, _, rfl, mk_own (t3 _ _ h1), l, o, _, _, rfl, rfl, upd_same, t3 _ _ h2, ?_, fun g ng => ?_⟩
      · rw [List.length_map]
        exact Nat.le_of_lt (small1000 (by show 1 + _ ≤ 1000; omega))
      · refine ⟨g, (("start" : Str) :: m.own).map V.str, rfl, .inl (.inl (.inl upd_same)), rfl, flat_strs _, _, rfl, ?_⟩
        show if (!inV (.str y.bg) ((("start" : Str) :: m.own).map V.str)) = true then _ else _
        rw [in_strs]
        have sB := (sA.trans t3).trans (same_upd (o := .lst ((("start" : Str) :: m.own).map V.str)) ng)
        by_cases hb' : ¬ y.bg ∈ ("start" : Str) :: m.own
        · rw [decide_eq_false hb']
          exact iteT (say (r := rf1 "NoMoment" "name" (.str y.bg)) sB (by simp only [Dd.no, nb, if_neg hz, if_pos hb']; rfl))
        rw [decide_eq_true (Classical.not_not.1 hb')]
        refine iteF ?_
        have len_no : lenB (.int y.lo) (.int y.hi) = false → (Dd.span y).no m = some (rf2 "BadLength" "low" "high" (.int y.lo) (.int y.hi)) := fun e => by
          simp only [Dd.no, nb, if_neg hz, if_neg hb', if_pos e]
          rfl
        refine ⟨_, rfl, .int y.lo, 1, 1000, rfl, rfl, _, rfl, ?_⟩
        cases w1 : whB 1 1000 (.int y.lo) with
        | false => exact iteT (iteT (say sB (len_no (by unfold lenB; rw [w1]; rfl))))
        | true =>
        refine iteF ⟨_, rfl, .int y.hi, 1, 1000, rfl, rfl, _, rfl, ?_⟩
        have b1 : 1 ≤ y.lo ∧ y.lo ≤ 1000 := of_decide_eq_true w1
        have lenE : lenB (.int y.lo) (.int y.hi) = decide (y.lo ≤ y.hi ∧ y.hi ≤ 1000) := by
          unfold lenB
          rw [w1]
          rfl
        cases w2 : whB 1 1000 (.int y.hi) with
        | false => exact iteT (iteT (say sB (len_no (by
            rw [lenE]
            have : ¬ (1 ≤ y.hi ∧ y.hi ≤ 1000) := of_decide_eq_false w2
            exact decide_eq_false (by omega)))))
        | true =>
        have b2 : 1 ≤ y.hi ∧ y.hi ≤ 1000 := of_decide_eq_true w2
        refine iteF ⟨_, rfl, _, rfl, y.lo, y.hi, rfl, rfl, _, rfl, ?_⟩
        by_cases h9 : y.hi < y.lo
        · rw [decide_eq_true h9]
          exact iteT (say sB (len_no (by rw [lenE]; exact decide_eq_false (by omega))))
        rw [decide_eq_false h9]
        have lenY : lenB (.int y.lo) (.int y.hi) = true := by
          rw [lenE]
          exact decide_eq_true (by omega)
        have late_no : lateB (oV y.la) = false → (Dd.span y).no m = some (rf1 "BadLate" "late" (oV y.la)) := fun e => by
          simp only [Dd.no, nb, if_neg hz, if_neg hb', lenY, if_pos e]
          rfl
        have last : lateB (oV y.la) = true → ∀ H', Same H H' → Q (.str (if m.wd.length < 4 then "" else "Full")) H' := fun e H' s => by
          have q := q H' s
          unfold Dd.wrd at q
          simp only [Dd.no, nb, if_neg hz, if_neg hb', lenY, e] at q
          by_cases hf : m.wd.length < 4
          · simp only [hf, if_true] at q ⊢
            exact q
          · simp only [hf, if_false] at q ⊢
            exact q
        obtain ⟨o, u, b, ws, bs, h1, h2, h3, h4, h5, h6, h7⟩ := (M.same sB).ex
        have lw : ws.length = m.wd.length := by rw [h4.len, List.length_map]
        have len4 : (V.bl (decide ((3 : Int) < (ws.length : Nat)))) = V.bl (!decide (m.wd.length < 4)) := by
          rw [lw]
          congr 1
          by_cases h : m.wd.length < 4
          · rw [decide_eq_true h, decide_eq_false (by omega)]
            rfl
          · rw [decide_eq_false h, decide_eq_true (by omega)]
            rfl
        have fin : lateB (oV y.la) = true → (if (decide ((3 : Int) < (ws.length : Nat))) = true then Q (.str "Full") (upd (upd H2 l (.lst [.str "start"])) g (.lst ((("start" : Str) :: m.own).map V.str))) else Q (.str "") (upd (upd H2 l (.lst [.str "start"])) g (.lst ((("start" : Str) :: m.own).map V.str)))) := fun e => by
          have q := last e _ sB
          rw [V.bl.inj len4]
          by_cases h : m.wd.length < 4
          · rw [if_pos h] at q
            rw [decide_eq_true h]
            exact q
          · rw [if_neg h] at q
            rw [decide_eq_false h]
            exact q
        refine iteF ⟨_, rfl, rfl, _, rfl, ?_⟩
        cases hl : y.la with
        | none =>
          exact iteF (iteF ⟨_, rfl, d, _, rfl, mk_wd h1, u, _, rfl, .inl (.inl (.inl h3)), _, _, rfl, rfl, _, rfl, fin (by rw [hl]; rfl)⟩)
        | some i =>
          refine iteT ⟨_, rfl, .int i, 0, 1000, rfl, rfl, _, rfl, ?_⟩
          have le : lateB (oV y.la) = whB 0 1000 (.int i) := by
            rw [hl]
            unfold lateB
            rw [show decide (oV (some i) = V.non) = false from decide_eq_false (fun z => nomatch z), Bool.false_or]
            rfl
          cases w3 : whB 0 1000 (.int i) with
          | false => exact iteT (say sB (late_no (le.trans w3)))
          | true => exact iteF ⟨_, rfl, d, _, rfl, mk_wd h1, u, _, rfl, .inl (.inl (.inl h3)), _, _, rfl, rfl, _, rfl, fin (le.trans w3)⟩
theorem empty_appL {α : Type} (a b : List α) : (a ++ b).isEmpty = (a.isEmpty && b.isEmpty) := by cases a <;> rfl
theorem empty_mapL {α β : Type} (f : α → β) (a : List α) : (a.map f).isEmpty = a.isEmpty := by cases a <;> rfl
theorem rows_appL {H : Hp} : ∀ {xs ys : List V} {rs qs : List (List V)}, Rows H xs rs → Rows H ys qs → Rows H (xs ++ ys) (rs ++ qs)
  | _, _, _, _, .nil, k => k
  | _, _, _, _, .cons h t, k => .cons h (rows_appL t k)
/-- nothing is used of a name just where no row speaks of it -/
theorem used_rows {m : Md} {z : Str} : (!((m.wd.filter fun x => decide (x.bg = z)).map Wd.row ++ (m.bd.filter fun x => decide (z ∈ [x.one, x.oth])).map Bd.row).isEmpty) = usedB m z := by
  rw [empty_appL, empty_mapL, empty_mapL, Bool.not_and, usedB]
  congr 1
  · rw [Bool.eq_iff_iff]
    simp
  · rw [Bool.eq_iff_iff]
    simp only [List.isEmpty_eq_false_iff, Bool.not_eq_true', ne_eq, List.filter_eq_nil_iff, decide_eq_true_eq, List.any_eq_true, Classical.not_forall, Classical.not_not, exists_prop]
theorem cut_suf1 (x : V) (l : List V) : cutV (x :: l) (some 1) none = l := by
  unfold cutV
  rw [HT.sIx_none, show (1 : Int) = ((1 : Nat) : Int) from rfl, HT.sIx_nat, List.length_cons, Nat.min_eq_left (by omega), List.drop_one, List.tail_cons]
  exact List.take_of_length_le (by omega)
def sp_wow : Sp := fun vs H Q _ => ∃ (d : Addr) (m : Md) (z : Str), vs = [.ref d, .str z] ∧ MdAt H d m ∧ DOk m ∧ ∀ H', Same H H' → Q (.str ((Dd.wo z).wrd m)) H'
theorem cal__law_without_word (T : Tp K mg) : Cal P w K mg base 3 "_law_without_word" sp_wow := by
  obtain ⟨fd, F⟩ := f__law_without_word T
  refine cal_of F (g__law_without_word T) (b__law_without_word F) sc__law_without_word (fun vs H Q E h => ?_) (fun cdv A outer s H vs Q E hr h => ?_)
  · obtain ⟨d, m, z, rfl, _⟩ := h
    rfl
  · obtain ⟨d, m, z, rfl, M, ok, q⟩ := h
    have hu := hu_of hr
    have hu64 := hr.units
    obtain ⟨l1, l2, l3⟩ := ok.len
    refine ⟨_, (pss_cons (ps_if (pt_cmpR op_notIn_seq (pv 1) (pe_slice sl_list (C8.pe_c (cal__law_points T) hr (by decide) rfl (pa_cons (pv 0) pa_nil)) (po_some pe_int) po_none) (by rfl)) (pss_one (ps_ret pe_str)) pss_nil)
      (pss_cons (ps_setLc (i := 2) (own := [("_law_wind", 3)]) (g := gName 3) rfl sc__law_without_word.nd rfl rfl (sw_true rfl rfl rfl (by decide +kernel)) (pi_list (pe_dget hu (pv 0) pe_str (fun _ _ => rfl))) (blkOk_by (N := N__law_without_word) (sc := defScope s__law_without_word) (by decide +kernel)) (fun _ _ _ _ _ => (pg_name (i := 3) sc__law_without_word.nd rfl (.inl rfl))) (fun _ _ _ _ _ => (pts_one (pt_cmpR op_eq (pe_ix (ix_tupK (K := K) rfl) (pv 3) pe_int (fun _ _ => rfl)) (pv 1) (nomark _)))) (fun _ _ _ _ _ => (pv 3)))
      (pss_cons (ps_set (i := 2) sc__law_without_word.nd rfl (.inl rfl) (pe_op op_cat (pv 2) (pe_lc (own := [("_law_bond_here", 4)]) (g := gName 4) rfl sc__law_without_word.nd (pi_list (pe_dget hu (pv 0) pe_str (fun _ _ => rfl))) (blkOk_by (N := N__law_without_word) (sc := defScope s__law_without_word) (by decide +kernel)) (fun _ _ _ _ _ => (pg_name (i := 4) sc__law_without_word.nd rfl (.inl rfl))) (fun _ _ _ _ _ => (pts_one (pt_cmpR (op_in_seqK (K := K) rfl) (pv 1) (pe_slice (sl_tupK (K := K) rfl) (pv 4) po_none (po_some pe_int)) (by rfl)))) (fun _ _ _ _ _ => (pv 4)))))
      (pss_one (ps_ret (pe_ifExp (pt_cmpR (op_neD hu64) (pv 2) (pe_lst pa_nil) (nomark _)) pe_str pe_str)))))), ?_⟩
    have say : ∀ {H' : Hp} {z2 : Str}, Same H H' → (Dd.wo z).wrd m = z2 → Q (.str z2) H' := fun s e => e ▸ q _ s
    refine ⟨_, rfl, _, rfl, d, m, rfl, M, by omega, by omega, fun l H1 s1 nl hl => ⟨1, rfl, l, _, rfl, .inl (.inl hl), fun r nr => ?_⟩⟩
    have e1 : cutV (m.pts.map V.str) (some 1) none = (m.own ++ m.wd.map (·.en)).map V.str := cut_suf1 _ _
    rw [e1]
    refine ⟨r, _, rfl, .inl (.inl (.inl upd_same)), rfl, flat_strs _, _, rfl, ?_⟩
    show if (!inV (.str z) ((m.own ++ m.wd.map (·.en)).map V.str)) = true then _ else _
    rw [in_strs]
    have sA := s1.trans (same_upd (o := .lst ((m.own ++ m.wd.map (·.en)).map V.str)) nr)
    have inE : z ∈ m.own ++ m.wd.map (·.en) ↔ ¬ (¬ z ∈ m.pts ∨ z = "start") := ⟨fun h e => e.elim (fun e => e (List.mem_cons_of_mem _ h)) (fun e => ok.nst (e ▸ h)), fun h => by
      by_cases h1 : z ∈ m.pts
      · rcases List.mem_cons.1 h1 with e | e
        · exact absurd (.inr e) h
        · exact e
      · exact absurd (.inl h1) h⟩
    by_cases hz : ¬ z ∈ m.own ++ m.wd.map (·.en)
    · rw [decide_eq_false hz]
      exact iteT (say sA (wrd_some (r := rf1 "NoPoint" "name" (.str z)) (by simp only [Dd.no]; exact if_pos (Classical.not_not.1 fun h => hz (inE.2 h)))))
    rw [decide_eq_true (Classical.not_not.1 hz)]
    have hz2 := inE.1 (Classical.not_not.1 hz)
    refine iteF ?_
    generalize upd H1 r (.lst ((m.own ++ m.wd.map (·.en)).map V.str)) = H2 at sA ⊢
    obtain ⟨o, u, b, ws, bs, h1, h2, h3, h4, h5, h6, h7⟩ := (M.same sA).ex
    refine ⟨_, rfl, d, _, rfl, mk_wd h1, u, rfl, ⟨_, .inl (.inl h3)⟩, fun D1 nD1 => ?_⟩
    refine lc_pure m.wd (walk_listN (by rw [h4.len, List.length_map])) (fun x => if decide (x.bg = z) = true then some x else none) (SR Wd.row) sr_k nD1 (by omega) (fun H s => .inl (.inl (s _ _ h3))) ?_ ?_
    · rintro j x v H10 _ ex s10 ⟨rfl, hv⟩ Good Bad kt kf
      obtain ⟨t, rfl, ht⟩ := rows_at h4 hv ex
      have ht' := s10 _ _ ht
      refine ⟨rfl, _, rfl, t, _, 1, _, rfl, rfl, .inl (.inl ht'), atI_nat (j := 1) rfl, _, rfl, rfl, _, rfl, ?_⟩
      have ed : decide (V.str x.bg = V.str z) = decide (x.bg = z) := by simp
      rw [ed]
      cases e : decide (x.bg = z) with
      | true => exact iteT ⟨_, rfl, kt _ _ _ (by rw [if_pos e]) (Same.refl _) ⟨t, rfl, ht'⟩⟩
      | false => exact iteF (kf (by rw [if_neg (by rw [e]; simp)]) _ (Same.refl _))
    · intro H10 acc1 s10 d10 p10
      rw [fm_filter] at p10
      have r10 := paired_rows p10
      have h5' := s10 _ _ h5
      refine ⟨_, rfl, _, rfl, d, _, rfl, mk_bd (s10 _ _ h1), b, rfl, ⟨_, .inl (.inl h5')⟩, fun D2 nD2 => ?_⟩
      refine lc_pure m.bd (walk_listN (by rw [h6.len, List.length_map])) (fun x => if decide (z ∈ [x.one, x.oth]) = true then some x else none) (SR Bd.row) sr_k nD2 (by omega) (fun H s => .inl (.inl (s _ _ h5'))) ?_ ?_
      · rintro j x v H11 _ ex s11 ⟨rfl, hv⟩ Good Bad kt kf
        obtain ⟨t, rfl, ht⟩ := rows_at h6 hv ex
        have ht' := s11 _ _ (s10 _ _ ht)
        refine ⟨rfl, _, rfl, _, rfl, 2, rfl, t, _, rfl, .inl (.inl ht'), (by rintro ⟨_, e⟩; cases e), fun k nk => ⟨k, _, rfl, .inr (.inl (.inl upd_same)), rfl, rfl, _, rfl, ?_⟩⟩
        show if inV (.str z) ([x.one, x.oth].map V.str) = true then _ else _
        rw [in_strs]
        have sk := same_upd (o := .tup ([x.one, x.oth].map V.str)) nk
        cases e : decide (z ∈ [x.one, x.oth]) with
        | true => exact iteT ⟨_, rfl, kt _ _ _ (by rw [if_pos e]) sk ⟨t, rfl, sk _ _ ht'⟩⟩
        | false => exact iteF (kf (by rw [if_neg (by rw [e]; simp)]) _ sk)
      · intro H11 acc2 s11 d11 p11
        rw [fm_filter] at p11
        have r11 := paired_rows p11
        have la1 : acc1.length ≤ m.wd.length := by
          rw [r10.len, List.length_map]
          exact List.length_filter_le _ _
        have la2 : acc2.length ≤ m.bd.length := by
          rw [r11.len, List.length_map]
          exact List.length_filter_le _ _
        refine ⟨D1, D2, _, _, rfl, rfl, s11 _ _ d10, d11, Nat.le_of_lt (small1000 (by omega)), fun U nU => ?_⟩
        have sU := same_upd (o := .lst (acc1 ++ acc2)) nU
        have sB := ((sA.trans s10).trans s11).trans sU
        have RU := rows_appL (r10.keep (Kt.of (s11.trans sU))) (r11.keep (Kt.of sU))
        refine ⟨_, rfl, Nat.zero_le _, fun E0 nE => ?_⟩
        have sE := same_upd (o := .lst []) nE
        refine ne_empty (sE _ _ upd_same) upd_same (RU.keep (Kt.of sE)) (fun r hr => ?_) ⟨_, rfl, ?_⟩
        · rcases List.mem_append.mp hr with h | h
          · obtain ⟨x, hx, rfl⟩ := List.mem_map.mp h
            exact ok.wdV _ (List.mem_map.mpr ⟨x, (List.mem_filter.mp hx).1, rfl⟩)
          · obtain ⟨x, hx, rfl⟩ := List.mem_map.mp h
            exact ok.bdV _ (List.mem_map.mpr ⟨x, (List.mem_filter.mp hx).1, rfl⟩)
        · rw [used_rows]
          cases hus : usedB m z with
          | true => exact iteT (say (sB.trans sE) (wrd_some (r := rf1 "Used" "name" (.str z)) (by simp only [Dd.no, if_neg hz2, hus, if_true])))
          | false => exact iteF (say (sB.trans sE) (wrd_none (by simp only [Dd.no, if_neg hz2, hus]; rfl)))
/-- the word of any deed -/
def sp_dwd : Sp := fun vs H Q _ => ∃ (d t : Addr) (m : Md) (x : Dd), vs = [.ref d, .ref t] ∧ MdAt H d m ∧ DOk m ∧ H t = some (.tup x.row) ∧ x.Ns ∧ ∀ H', Same H H' → Q (.str (x.wrd m)) H'
theorem cal__law_deed_word (T : Tp K mg) : Cal P w K mg base 5 "_law_deed_word" sp_dwd := by
  obtain ⟨fd, F⟩ := f__law_deed_word T
  refine cal_of F (g__law_deed_word T) (b__law_deed_word F) sc__law_deed_word (fun vs H Q E h => ?_) (fun cdv A outer s H vs Q E hr h => ?_)
  · obtain ⟨d, t, m, x, rfl, _⟩ := h
    rfl
  · obtain ⟨d, t, m, x, rfl, M, ok, ht, ns, q⟩ := h
    have hu := hu_of hr
    obtain ⟨l1, l2, l3⟩ := ok.len
    refine ⟨_, (pss_cons (ps_set (i := 2) sc__law_deed_word.nd rfl (.inl rfl) (pe_ix ix_tup (pv 1) pe_int (fun _ _ => rfl)))
      (pss_cons (ps_if (pt_cmpR op_eq (pv 2) pe_str (nomark _)) (pss_one (ps_ret (pe_ifExp (pt_val (C8.pe_c (cal__law_whole T) hr (by decide) rfl (pa_cons (pe_ix ix_tup (pv 1) pe_int (fun _ _ => rfl)) (pa_cons pe_int (pa_cons pe_int pa_nil))))) pe_str pe_str))) pss_nil)
      (pss_cons (ps_if (PW.pt (pw_and (pt_cmpR op_eq (pv 2) pe_str (nomark _)) (pw_and1 (pt_cmpR op_ne (C8.pe_c (cal__law_new_due T) hr (by decide) rfl (pa_cons (pv 0) (pa_cons (pe_ix ix_tup (pv 1) pe_int (fun _ _ => rfl)) pa_nil))) pe_str (nomark _))))) (pss_one (ps_ret (C8.pe_c (cal__law_new_due T) hr (by decide) rfl (pa_cons (pv 0) (pa_cons (pe_ix ix_tup (pv 1) pe_int (fun _ _ => rfl)) pa_nil))))) pss_nil)
      (pss_cons (ps_if (pt_cmpR op_eq (pv 2) pe_str (nomark _)) (pss_one (ps_ret (pe_ifExp (pt_cmpR op_gt (pe_callB call_len_seq (by rfl) (z_len T) bb_len (pa_cons (pe_dget hu (pv 0) pe_str (fun _ _ => rfl)) pa_nil)) pe_int (nomark _)) pe_str pe_str))) pss_nil)
      (pss_cons (ps_if (pt_cmpR op_eq (pv 2) pe_str (nomark _)) (pss_one (ps_ret (C8.pe_c (cal__law_span_word T) hr (by decide) rfl (pa_cons (pv 0) (pa_cons (pv 1) pa_nil))))) pss_nil)
      (pss_cons (ps_if (pt_cmpR op_eq (pv 2) pe_str (nomark _)) (pss_one (ps_ret (C8.pe_c (cal__law_without_word T) hr (by decide) rfl (pa_cons (pv 0) (pa_cons (pe_ix ix_tup (pv 1) pe_int (fun _ _ => rfl)) pa_nil))))) pss_nil)
      (pss_cons (ps_if (pt_cmpR op_eq (pv 2) pe_str (nomark _)) (pss_one (ps_ret (pe_ifExp (pt_val (C8.pe_c (cal__law_whole T) hr (by decide) rfl (pa_cons (pe_ix ix_tup (pv 1) pe_int (fun _ _ => rfl)) (pa_cons pe_int (pa_cons (pe_op op_sub (pe_callB call_len_seq (by rfl) (z_len T) bb_len (pa_cons (pe_dget hu (pv 0) pe_str (fun _ _ => rfl)) pa_nil)) pe_int) pa_nil))))) pe_str pe_str))) pss_nil)
      (pss_cons (ps_set (i := 3) sc__law_deed_word.nd rfl (.inl rfl) (C8.pe_c (cal__law_tie_due T) hr (by decide) rfl (pa_cons (pv 0) (pa_cons (pe_ix ix_tup (pv 1) pe_int (fun _ _ => rfl)) (pa_cons (pe_ix ix_tup (pv 1) pe_int (fun _ _ => rfl)) (pa_cons (pe_ix ix_tup (pv 1) pe_int (fun _ _ => rfl)) (pa_cons (pe_ix ix_tup (pv 1) pe_int (fun _ _ => rfl)) pa_nil)))))))
      (pss_cons (ps_if (pt_cmpR op_notN (pv 3) pe_non (nomark _)) (pss_one (ps_ret (pe_ix ix_tup (pv 3) pe_int (fun _ _ => rfl)))) pss_nil)
      (pss_one (ps_ret (pe_ifExp (pt_cmpR op_gt (pe_callB call_len_seq (by rfl) (z_len T) bb_len (pa_cons (pe_dget hu (pv 0) pe_str (fun _ _ => rfl)) pa_nil)) pe_int (nomark _)) pe_str pe_str)))))))))))), ?_⟩
    have say : ∀ {H' : Hp} {z2 : Str}, Same H H' → x.wrd m = z2 → Q (.str z2) H' := fun s e => e ▸ q _ s
    have at0 : ∀ {v : V} {n : Nat}, x.row[n]? = some v → atI x.row (n : Int) = some v := fun e => atI_nat e
    refine ⟨_, rfl, t, _, 0, _, rfl, rfl, .inl (.inl ht), atI_nat (j := 0) rfl, ?_⟩
    obtain ⟨o, u, b, ws, bs, h1, h2, h3, h4, h5, h6, h7⟩ := M.ex
    have lw : ws.length = m.wd.length := by rw [h4.len, List.length_map]
    have lb : bs.length = m.bd.length := by rw [h6.len, List.length_map]
    cases x with
    | las l =>
      refine ⟨_, rfl, rfl, _, rfl, iteT ⟨_, rfl, t, _, 1, _, rfl, rfl, .inl (.inl ht), atI_nat (j := 1) rfl, .int l, 1, 1000, rfl, rfl, _, rfl, ?_⟩⟩
      cases hw : whB 1 1000 (.int l) with
      | true => exact iteT (say (Same.refl _) (wrd_none (by simp only [Dd.no, hw, if_true])))
      | false => exact iteF (say (Same.refl _) (wrd_some (r := rf1 "BadBy" "by" (.int l)) (by simp only [Dd.no, hw]; rfl)))
    | mom z =>
      refine ⟨_, rfl, rfl, _, rfl, iteF ⟨_, rfl, rfl, _, rfl, iteT ⟨_, rfl, _, rfl, t, _, 1, _, rfl, rfl, .inl (.inl ht), atI_nat (j := 1) rfl, d, m, z, rfl, M, by omega, by omega, ns, fun H2 s2 => ⟨rfl, _, rfl, ?_⟩⟩⟩⟩
      have nb := nmB_ok.2 ns
      by_cases hz : z ∈ m.pts
      · rw [newW_in hz]
        refine iteT ⟨_, rfl, _, rfl, t, _, 1, _, rfl, rfl, .inl (.inl (s2 _ _ ht)), atI_nat (j := 1) rfl, d, m, z, rfl, M.same s2, by omega, by omega, ns, fun H3 s3 => ?_⟩
        rw [newW_in hz]
        exact say (s2.trans s3) (wrd_some (r := rf1 "Taken" "name" (.str z)) (by simp [Dd.no, nb, hz]))
      · rw [newW_no hz]
        refine iteF ⟨_, rfl, rfl, _, rfl, iteT ⟨_, rfl, d, _, rfl, mk_own (s2 _ _ h1), o, _, rfl, .inl (.inl (.inl (s2 _ _ h2))), _, _, rfl, rfl, _, rfl, ?_⟩⟩
        rw [List.length_map]
        by_cases hf : m.own.length < 10
        · rw [decide_eq_false (show ¬ (9 : Int) < (m.own.length : Nat) by omega)]
          exact iteF (say s2 (wrd_none (by simp [Dd.no, nb, hz, hf])))
        · rw [decide_eq_true (show (9 : Int) < (m.own.length : Nat) by omega)]
          exact iteT (say s2 (wrd_some (r := rf1 "Full" "most" (.int 10)) (by simp [Dd.no, nb, hz, hf])))
    | span y =>
      refine ⟨_, rfl, rfl, _, rfl, iteF ⟨_, rfl, rfl, _, rfl, iteF (iteF ⟨_, rfl, rfl, _, rfl, iteF ⟨_, rfl, rfl, _, rfl, iteT ⟨_, rfl, _, rfl, d, t, m, y, rfl, M, ok, ht, ns.1, fun H2 s2 => say s2 rfl⟩⟩⟩)⟩⟩
    | wo z =>
      refine ⟨_, rfl, rfl, _, rfl, iteF ⟨_, rfl, rfl, _, rfl, iteF (iteF ⟨_, rfl, rfl, _, rfl, iteF ⟨_, rfl, rfl, _, rfl, iteF ⟨_, rfl, rfl, _, rfl, iteT ⟨_, rfl, _, rfl, t, _, 1, _, rfl, rfl, .inl (.inl ht), atI_nat (j := 1) rfl, d, m, z, rfl, M, ok, fun H2 s2 => say s2 rfl⟩⟩⟩⟩)⟩⟩
    | unt i =>
      refine ⟨_, rfl, rfl, _, rfl, iteF ⟨_, rfl, rfl, _, rfl, iteF (iteF ⟨_, rfl, rfl, _, rfl, iteF ⟨_, rfl, rfl, _, rfl, iteF ⟨_, rfl, rfl, _, rfl, iteF ⟨_, rfl, rfl, _, rfl, iteT ?_⟩⟩⟩⟩)⟩⟩
      refine ⟨_, rfl, t, _, 1, _, rfl, rfl, .inl (.inl ht), atI_nat (j := 1) rfl, _, rfl, d, _, rfl, mk_bd h1, b, _, rfl, .inl (.inl (.inl h5)), _, _, rfl, rfl, .int i, 0, (bs.length : Int) - 1, rfl, rfl, _, rfl, ?_⟩
      rw [lb]
      cases hw : whB 0 ((m.bd.length : Int) - 1) (.int i) with
      | true => exact iteT (say (Same.refl _) (wrd_none (by simp only [Dd.no, hw, if_true])))
      | false => exact iteF (say (Same.refl _) (wrd_some (r := rf1 "NoTie" "at" (.int i)) (by simp only [Dd.no, hw]; rfl)))
    | tie y =>
      refine ⟨_, rfl, rfl, _, rfl, iteF ⟨_, rfl, rfl, _, rfl, iteF (iteF ⟨_, rfl, rfl, _, rfl, iteF ⟨_, rfl, rfl, _, rfl, iteF ⟨_, rfl, rfl, _, rfl, iteF ⟨_, rfl, rfl, _, rfl, iteF ?_⟩⟩⟩⟩)⟩⟩
      have la : (plK (oV y.bot)).isSome = true := by cases y.bot <;> rfl
      have lc : (plK (oV y.top)).isSome = true := by cases y.top <;> rfl
      refine ⟨_, rfl, _, rfl, t, _, 1, _, rfl, rfl, .inl (.inl ht), atI_nat (j := 1) rfl, _, rfl, t, _, 2, _, rfl, rfl, .inl (.inl ht), atI_nat (j := 2) rfl, _, rfl, t, _, 3, _, rfl, rfl, .inl (.inl ht), atI_nat (j := 3) rfl, _, rfl, t, _, 4, _, rfl, rfl, .inl (.inl ht), atI_nat (j := 4) rfl, d, m, y.one, y.oth, oV y.bot, oV y.top, rfl, M, by omega, by omega, la, lc, fun due H2 s2 D => ⟨_, rfl, rfl, _, rfl, ?_⟩⟩
      rcases D with ⟨h, t2, rfl, e2⟩ | ⟨a1, h, t2, rfl, e2⟩ | ⟨a1, a2, h, t2, rfl, e2⟩ | ⟨a1, a2, a3, a4, rfl⟩
      · exact iteT ⟨_, rfl, t2, _, 0, _, rfl, rfl, .inl (.inl e2), atI_nat (j := 0) rfl, say s2 (wrd_some (r := rf1 "NoPoint" "name" (.str y.one)) (by simp only [Dd.no, if_pos h]))⟩
      · exact iteT ⟨_, rfl, t2, _, 0, _, rfl, rfl, .inl (.inl e2), atI_nat (j := 0) rfl, say s2 (wrd_some (r := rf1 "NoPoint" "name" (.str y.oth)) (by simp only [Dd.no, if_neg (show ¬ ¬ y.one ∈ m.pts from fun z => z a1), if_pos h]))⟩
      · exact iteT ⟨_, rfl, t2, _, 0, _, rfl, rfl, .inl (.inl e2), atI_nat (j := 0) rfl, say s2 (wrd_some (r := rf2 "BadTie" "least" "most" (oV y.bot) (oV y.top)) (by simp only [Dd.no, if_neg (show ¬ ¬ y.one ∈ m.pts from fun z => z a1), if_neg (show ¬ ¬ y.oth ∈ m.pts from fun z => z a2), if_pos h]))⟩
      · have nn : ¬ (y.one = y.oth ∨ tieBnd (oV y.bot) (oV y.top) = false) := fun z => z.elim a3 fun z => by rw [a4] at z; cases z
        refine iteF ⟨_, rfl, d, _, rfl, mk_bd (s2 _ _ h1), b, _, rfl, .inl (.inl (.inl (s2 _ _ h5))), _, _, rfl, rfl, _, rfl, ?_⟩
        rw [lb]
        by_cases hf : m.bd.length < 40
        · rw [decide_eq_false (show ¬ (39 : Int) < (m.bd.length : Nat) by omega)]
          exact iteF (say s2 (wrd_none (by simp only [Dd.no, if_neg (show ¬ ¬ y.one ∈ m.pts from fun z => z a1), if_neg (show ¬ ¬ y.oth ∈ m.pts from fun z => z a2), if_neg nn, if_pos hf])))
        · rw [decide_eq_true (show (39 : Int) < (m.bd.length : Nat) by omega)]
          exact iteT (say s2 (wrd_some (r := rf1 "Full" "most" (.int 40)) (by simp only [Dd.no, if_neg (show ¬ ¬ y.one ∈ m.pts from fun z => z a1), if_neg (show ¬ ¬ y.oth ∈ m.pts from fun z => z a2), if_neg nn, if_neg hf])))
/-! ### a deed done -/
theorem no_mom {m : Md} {z : Str} (h : (Dd.mom z).no m = none) : Nm z ∧ ¬ z ∈ m.pts ∧ m.own.length < 10 := by
  simp only [Dd.no] at h
  split at h
  · cases h
  · rename_i n
    split at h
    · cases h
    · rename_i i
      split at h
      · rename_i f
        exact ⟨nmB_ok.1 (by cases e : nmB z with | true => rfl | false => exact absurd e n), i, f⟩
      · cases h
theorem no_span {m : Md} {y : Wd} (h : (Dd.span y).no m = none) : ¬ y.en ∈ m.pts ∧ y.bg ∈ ("start" : Str) :: m.own ∧ m.wd.length < 4 := by
  simp only [Dd.no] at h
  split at h
  · cases h
  split at h
  · cases h
  rename_i i
  split at h
  · cases h
  rename_i b
  split at h
  · cases h
  split at h
  · cases h
  split at h
  · rename_i f
    exact ⟨i, Classical.not_not.1 b, f⟩
  · cases h
theorem no_tie {m : Md} {y : Bd} (h : (Dd.tie y).no m = none) : y.one ∈ m.pts ∧ y.oth ∈ m.pts ∧ m.bd.length < 40 := by
  simp only [Dd.no] at h
  split at h
  · cases h
  rename_i a
  split at h
  · cases h
  rename_i b
  split at h
  · cases h
  split at h
  · rename_i f
    exact ⟨Classical.not_not.1 a, Classical.not_not.1 b, f⟩
  · cases h
theorem no_wo {m : Md} {z : Str} (h : (Dd.wo z).no m = none) : z ∈ m.pts ∧ ¬ z = "start" ∧ usedB m z = false := by
  simp only [Dd.no] at h
  split at h
  · cases h
  rename_i a
  split at h
  · cases h
  rename_i u
  exact ⟨Classical.not_not.1 fun e => a (.inl e), fun e => a (.inr e), Bool.eq_false_iff.2 u⟩
theorem no_unt {m : Md} {i : Int} (h : (Dd.unt i).no m = none) : 0 ≤ i ∧ i ≤ (m.bd.length : Int) - 1 := by
  simp only [Dd.no] at h
  split at h
  · rename_i e
    exact of_decide_eq_true e
  · cases h
/-- what a deed leaves is good -/
theorem did_ok {m : Md} {x : Dd} (k : DOk m) (h : x.no m = none) (ns : x.Ns) : DOk (x.did m) := by
  obtain ⟨l1, l2, l3⟩ := k.len
  cases x with
  | las l =>
    have hw : whB 1 1000 (.int l) = true := by
      simp only [Dd.no] at h
      split at h
      · assumption
      · cases h
    exact ⟨of_decide_eq_true hw, k.nd, k.nm, k.bg, k.ti, k.len⟩
  | mom z =>
    obtain ⟨nz, hz, hf⟩ := no_mom h
    have pp : List.Perm (m.addM z).pts (z :: m.pts) := by
      show List.Perm (("start" : Str) :: ((m.own ++ [z]) ++ m.wd.map (·.en))) (z :: ("start" : Str) :: (m.own ++ m.wd.map (·.en)))
      rw [List.append_assoc]
      exact (List.Perm.cons _ List.perm_middle).trans (List.Perm.swap _ _ _)
    have up : ∀ {y}, y ∈ m.pts → y ∈ (m.addM z).pts := fun e => pp.mem_iff.2 (List.mem_cons_of_mem _ e)
    refine ⟨k.last, pp.nodup_iff.2 (List.nodup_cons.2 ⟨hz, k.nd⟩), fun y hy => ?_, fun y hy => ?_, fun y hy => ⟨up (k.ti y hy).1, up (k.ti y hy).2⟩, ⟨?_, l2, l3⟩⟩
    · rcases List.mem_cons.1 (pp.mem_iff.1 hy) with e | e
      · exact e ▸ nz
      · exact k.nm _ e
    · rcases List.mem_cons.1 (k.bg y hy) with e | e
      · exact e ▸ List.mem_cons_self
      · exact List.mem_cons_of_mem _ (List.mem_append_left _ e)
    · show (m.own ++ [z]).length ≤ 10
      rw [List.length_append]
      show m.own.length + 1 ≤ 10
      omega
  | span y =>
    obtain ⟨hz, hb, hf⟩ := no_span h
    have pp : List.Perm (m.addS y).pts (y.en :: m.pts) := by
      show List.Perm (("start" : Str) :: (m.own ++ (m.wd ++ [y]).map (·.en))) (y.en :: ("start" : Str) :: (m.own ++ m.wd.map (·.en)))
      rw [List.map_append, ← List.append_assoc]
      exact (List.Perm.cons _ List.perm_append_comm).trans (List.Perm.swap _ _ _)
    have up : ∀ {z}, z ∈ m.pts → z ∈ (m.addS y).pts := fun e => pp.mem_iff.2 (List.mem_cons_of_mem _ e)
    refine ⟨k.last, pp.nodup_iff.2 (List.nodup_cons.2 ⟨hz, k.nd⟩), fun z hy => ?_, fun z hy => ?_, fun z hy => ⟨up (k.ti z hy).1, up (k.ti z hy).2⟩, ⟨l1, ?_, l3⟩⟩
    · rcases List.mem_cons.1 (pp.mem_iff.1 hy) with e | e
      · exact e ▸ ns.1
      · exact k.nm _ e
    · rcases List.mem_append.1 hy with e | e
      · exact k.bg z e
      · rw [List.mem_singleton.1 e]
        exact hb
    · show (m.wd ++ [y]).length ≤ 4
      rw [List.length_append]
      show m.wd.length + 1 ≤ 4
      omega
  | tie y =>
    obtain ⟨h1, h2, hf⟩ := no_tie h
    refine ⟨k.last, k.nd, k.nm, k.bg, fun z hy => ?_, ⟨l1, l2, ?_⟩⟩
    · rcases List.mem_append.1 hy with e | e
      · exact k.ti z e
      · rw [List.mem_singleton.1 e]
        exact ⟨h1, h2⟩
    · show (m.bd ++ [y]).length ≤ 40
      rw [List.length_append]
      show m.bd.length + 1 ≤ 40
      omega
  | unt i =>
    refine ⟨k.last, k.nd, k.nm, k.bg, fun z hy => k.ti z (List.mem_of_mem_eraseIdx hy), ⟨l1, l2, ?_⟩⟩
    exact Nat.le_trans (List.length_eraseIdx_le _ _) l3
  | wo z =>
    obtain ⟨hz, h0, hu⟩ := no_wo h
    unfold usedB at hu
    obtain ⟨u1, u2⟩ := Bool.or_eq_false_iff.1 hu
    have sub : (m.drp z).pts.Sublist m.pts := List.Sublist.cons_cons _ (List.Sublist.append List.filter_sublist (List.Sublist.map _ List.filter_sublist))
    have stay : ∀ {y}, y ∈ m.pts → ¬ y = z → y ∈ (m.drp z).pts := fun {y} hy n => by
      rcases List.mem_cons.1 hy with e | e
      · exact e ▸ List.mem_cons_self
      · rcases List.mem_append.1 e with e | e
        · exact List.mem_cons_of_mem _ (List.mem_append_left _ (List.mem_filter.2 ⟨e, by simp [n]⟩))
        · obtain ⟨x, hx, rfl⟩ := List.mem_map.1 e
          exact List.mem_cons_of_mem _ (List.mem_append_right _ (List.mem_map.2 ⟨x, List.mem_filter.2 ⟨hx, by simp [n]⟩, rfl⟩))
    refine ⟨k.last, sub.nodup k.nd, fun y hy => k.nm y (sub.subset hy), fun y hy => ?_, fun y hy => ?_, ⟨Nat.le_trans (List.length_filter_le _ _) l1, Nat.le_trans (List.length_filter_le _ _) l2, l3⟩⟩
    · have hy' := (List.mem_filter.1 hy).1
      rcases List.mem_cons.1 (k.bg y hy') with e | e
      · exact e ▸ List.mem_cons_self
      · refine List.mem_cons_of_mem _ (List.mem_filter.2 ⟨e, ?_⟩)
        have : ¬ y.bg = z := fun e2 => of_decide_eq_false u1 (e2 ▸ List.mem_map.2 ⟨y, hy', rfl⟩)
        simp [this]
    · obtain ⟨h1, h2⟩ := k.ti y hy
      have n := List.any_eq_false.1 u2 y hy
      simp only [decide_eq_true_eq, List.mem_cons, List.not_mem_nil, or_false, not_or] at n
      exact ⟨stay h1 fun e => n.1 e.symm, stay h2 fun e => n.2 e.symm⟩
theorem putByK {l l2 : Int} {o w b : Addr} : putK (Tw.mk l o w b) kBy (.int l2) = Tw.mk l2 o w b := by
  have n1 : ¬ kOwn = kBy := fun e => k1 e.symm
  have n2 : ¬ kWd = kBy := fun e => k2 e.symm
  have n3 : ¬ kBd = kBy := fun e => k3 e.symm
  unfold putK Tw.mk
  rw [if_pos (by rw [List.any_cons, decide_eq_true (rfl : kBy = kBy)]; rfl)]
  simp only [List.map_cons, List.map_nil, if_neg n1, if_neg n2, if_neg n3, if_true]
theorem putWdK {l : Int} {o w b v : Addr} : putK (Tw.mk l o w b) kWd (.ref v) = Tw.mk l o v b := by
  have n1 : ¬ kBy = kWd := k2
  have n2 : ¬ kOwn = kWd := k4
  have n3 : ¬ kBd = kWd := fun e => k6 e.symm
  unfold putK Tw.mk
  rw [if_pos (by rw [List.any_cons, List.any_cons, List.any_cons, decide_eq_true (rfl : kWd = kWd)]; simp)]
  simp only [List.map_cons, List.map_nil, if_neg n1, if_neg n2, if_neg n3, if_true]
/-- a picture whose head is written anew -/
theorem MdX.head {H : Hp} {d o w b o' w' : Addr} {l : Int} {m m' : Md} {ws : List V} (M : MdX H d o w b m) (e1 : m'.last = l) (e2 : m'.bd = m.bd) (ho : H o' = some (.lst (m'.own.map V.str))) (hw : H w' = some (.lst ws)) (rw' : Rows H ws (m'.wd.map Wd.row)) (n1 : o' ≠ w') (n2 : o' ≠ b) (n3 : w' ≠ b) : MdX (upd H d (.dK (Tw.mk l o' w' b))) d o' w' b m' := by
  subst e1
  have kk : Kt H (upd H d (.dK (Tw.mk m'.last o' w' b))) := Kt.upd fun xs e => by rw [M.dk] at e; cases e
  obtain ⟨bs, x3, x4⟩ := M.bd
  have p1 := ne_of M.dk ho (fun z => nomatch z)
  have p2 := ne_of M.dk hw (fun z => nomatch z)
  have p3 := ne_of M.dk x3 (fun z => nomatch z)
  exact ⟨upd_same, by rw [upd_ne p1.symm]; exact ho, ⟨ws, by rw [upd_ne p2.symm]; exact hw, rw'.keep kk⟩, ⟨bs, by rw [upd_ne p3.symm]; exact x3, by rw [e2]; exact x4.keep kk⟩, n1, n2, n3⟩
def sp_ddn : Sp := fun vs H Q _ => ∃ (d t : Addr) (m : Md) (x : Dd), vs = [.ref d, .ref t] ∧ MdAt H d m ∧ DOk m ∧ H t = some (.tup x.row) ∧ x.no m = none ∧ ∀ (d' o' u' b' : Addr) (H' : Hp), Same H H' → H d' = none → H o' = none → H u' = none → H b' = none → MdX H' d' o' u' b' (x.did m) → Q (.ref d') H'
theorem cal__law_deed_done (T : Tp K mg) : Cal P w K mg base 3 "_law_deed_done" sp_ddn := by
  obtain ⟨fd, F⟩ := f__law_deed_done T
  refine cal_of F (g__law_deed_done T) (b__law_deed_done F) sc__law_deed_done (fun vs H Q E h => ?_) (fun cdv A outer s H vs Q E hr h => ?_)
  · obtain ⟨d, t, m, x, rfl, _⟩ := h
    rfl
  · obtain ⟨d, t, m, x, rfl, M, ok, ht, no, q⟩ := h
    have hu := hu_of hr
    obtain ⟨l1, l2, l3⟩ := ok.len
    refine ⟨_, (pss_cons (ps_set (i := 2) sc__law_deed_done.nd rfl (.inl rfl) (C8.pe_c (cal__law_copy T) hr (by decide) rfl (pa_cons (pv 0) pa_nil)))
      (pss_cons (ps_set (i := 3) sc__law_deed_done.nd rfl (.inl rfl) (pe_ix ix_tup (pv 1) pe_int (fun _ _ => rfl)))
      (pss_cons (ps_if (pt_cmpR op_eq (pv 3) pe_str (nomark _)) (pss_one (ps_dput hu (pv 2) pe_str (pe_ix ix_tup (pv 1) pe_int (fun _ _ => rfl)) rfl)) (pss_one (ps_if (pt_cmpR op_eq (pv 3) pe_str (nomark _)) (pss_one (ps_expr (pe_bm PySem.F.plainAttrs_list PySem.F.slot_list_append PySem.F.type_list_append mt_append (pe_dget hu (pv 2) pe_str (fun _ _ => rfl)) (pa_cons (pe_ix ix_tup (pv 1) pe_int (fun _ _ => rfl)) pa_nil)))) (pss_one (ps_if (pt_cmpR op_eq (pv 3) pe_str (nomark _)) (pss_one (ps_expr (pe_bm PySem.F.plainAttrs_list PySem.F.slot_list_append PySem.F.type_list_append mt_append (pe_dget hu (pv 2) pe_str (fun _ _ => rfl)) (pa_cons (pe_slice sl_tupU (pv 1) (po_some pe_int) po_none) pa_nil)))) (pss_one (ps_if (pt_cmpR op_eq (pv 3) pe_str (nomark _)) (pss_one (ps_expr (pe_bm PySem.F.plainAttrs_list PySem.F.slot_list_append PySem.F.type_list_append mt_append (pe_dget hu (pv 2) pe_str (fun _ _ => rfl)) (pa_cons (pe_slice sl_tupU (pv 1) (po_some pe_int) po_none) pa_nil)))) (pss_one (ps_if (pt_cmpR op_eq (pv 3) pe_str (nomark _)) (pss_one (ps_expr (pe_bm PySem.F.plainAttrs_list PySem.F.slot_list_pop PySem.F.type_list_pop mt_popAt (pe_dget hu (pv 2) pe_str (fun _ _ => rfl)) (pa_cons (pe_ix ix_tup (pv 1) pe_int (fun _ _ => rfl)) pa_nil)))) (pss_cons (ps_dput hu (pv 2) pe_str (pe_lc (own := [("_law_name", 4)]) (g := gName 4) rfl sc__law_deed_done.nd (pi_list (pe_dget hu (pv 0) pe_str (fun _ _ => rfl))) (blkOk_by (N := N__law_deed_done) (sc := defScope s__law_deed_done) (by decide +kernel)) (fun _ _ _ _ _ => (pg_name (i := 4) sc__law_deed_done.nd rfl (.inl rfl))) (fun _ _ _ _ _ => (pts_one (pt_cmpR op_ne (pv 4) (pe_ix (ix_tupK (K := K) rfl) (pv 1) pe_int (fun _ _ => rfl)) (nomark _)))) (fun _ _ _ _ _ => (pv 4))) rfl)
                (pss_one (ps_dput hu (pv 2) pe_str (pe_lc (own := [("_law_wind", 5)]) (g := gName 5) rfl sc__law_deed_done.nd (pi_list (pe_dget hu (pv 0) pe_str (fun _ _ => rfl))) (blkOk_by (N := N__law_deed_done) (sc := defScope s__law_deed_done) (by decide +kernel)) (fun _ _ _ _ _ => (pg_name (i := 5) sc__law_deed_done.nd rfl (.inl rfl))) (fun _ _ _ _ _ => (pts_one (pt_cmpR op_ne (pe_ix (ix_tupK (K := K) rfl) (pv 5) pe_int (fun _ _ => rfl)) (pe_ix (ix_tupK (K := K) rfl) (pv 1) pe_int (fun _ _ => rfl)) (nomark _)))) (fun _ _ _ _ _ => (pv 5))) rfl))))))))))))
      (pss_one (ps_ret (pv 2)))))), ?_⟩
    refine ⟨_, rfl, d, m, rfl, M, fun d' o' u' b' H1 s1 nd no' nu nb X => ?_⟩
    have ht1 := s1 _ _ ht
    refine ⟨_, rfl, t, _, 0, _, rfl, rfl, .inl (.inl ht1), atI_nat (j := 0) rfl, ?_⟩
    have dn : ∀ {y : Addr} {v : HO} {z : Addr}, H y = some v → H z = none → y ≠ z := fun e n => ne_of_none e n
    have su : ∀ {z : Addr} {v : HO}, H z = none → Same H (upd H1 z v) := fun n b o e => by
      rw [upd_ne (ne_of_none e n)]
      exact s1 _ _ e
    cases x with
    | las l =>
      refine ⟨_, rfl, rfl, _, rfl, iteT ⟨_, rfl, t, _, 1, _, rfl, rfl, .inl (.inl ht1), atI_nat (j := 1) rfl, _, rfl, d', _, rfl, DPut.k (k := kBy) X.dk (by show 4 < sizeLine; decide), ?_⟩⟩
      rw [putByK]
      obtain ⟨ws, x1, x2⟩ := X.wd
      exact ⟨_, rfl, q d' o' u' b' _ (su nd) nd no' nu nb (X.head rfl rfl X.own x1 x2 X.now X.nob X.nwb)⟩
    | mom z =>
      refine ⟨_, rfl, rfl, _, rfl, iteF ⟨_, rfl, rfl, _, rfl, iteT ?_⟩⟩
      refine ⟨_, rfl, d', _, rfl, mk_own X.dk, .inl ⟨rfl, _, .inl (.inl X.own)⟩, _, rfl, t, _, 1, _, rfl, rfl, .inl (.inl ht1), atI_nat (j := 1) rfl, o', _, _, rfl, rfl, X.own, by rw [List.length_map]; exact small1000 (by omega), ?_⟩
      exact ⟨_, rfl, q d' o' u' b' _ (su no') nd no' nu nb X.addO⟩
    | span y =>
      refine ⟨_, rfl, rfl, _, rfl, iteF ⟨_, rfl, rfl, _, rfl, iteF ⟨_, rfl, rfl, _, rfl, iteT ?_⟩⟩⟩
      obtain ⟨ws, x1, x2⟩ := X.wd
      refine ⟨_, rfl, d', _, rfl, mk_wd X.dk, .inl ⟨rfl, _, .inl (.inl x1)⟩, _, rfl, 1, rfl, t, _, rfl, ht1, fun p H2 s2 hp => ?_⟩
      have hp : H2 p = some (.tup y.row) := hp
      have X2 := X.same s2
      obtain ⟨ws2, y1, y2⟩ := X2.wd
      refine ⟨u', ws2, _, rfl, rfl, y1, ?_, ?_⟩
      · rw [y2.len, List.length_map]
        exact small1000 (by show m.wd.length ≤ 1000; omega)
      · refine ⟨_, rfl, q d' o' u' b' _ (fun z v e => ?_) nd no' nu nb (X2.addW y1 y2 hp)⟩
        rw [upd_ne (ne_of_none e nu)]
        exact s2 _ _ (s1 _ _ e)
    | tie y =>
      refine ⟨_, rfl, rfl, _, rfl, iteF ⟨_, rfl, rfl, _, rfl, iteF ⟨_, rfl, rfl, _, rfl, iteF ⟨_, rfl, rfl, _, rfl, iteT ?_⟩⟩⟩⟩
      obtain ⟨bs, x1, x2⟩ := X.bd
      refine ⟨_, rfl, d', _, rfl, mk_bd X.dk, .inl ⟨rfl, _, .inl (.inl x1)⟩, _, rfl, 1, rfl, t, _, rfl, ht1, fun p H2 s2 hp => ?_⟩
      have hp : H2 p = some (.tup y.row) := hp
      have X2 := X.same s2
      obtain ⟨bs2, y1, y2⟩ := X2.bd
      refine ⟨b', bs2, _, rfl, rfl, y1, ?_, ?_⟩
      · rw [y2.len, List.length_map]
        exact small1000 (by show m.bd.length ≤ 1000; omega)
      · refine ⟨_, rfl, q d' o' u' b' _ (fun z v e => ?_) nd no' nu nb (X2.addB y1 y2 hp)⟩
        rw [upd_ne (ne_of_none e nb)]
        exact s2 _ _ (s1 _ _ e)
    | unt i =>
      refine ⟨_, rfl, rfl, _, rfl, iteF ⟨_, rfl, rfl, _, rfl, iteF ⟨_, rfl, rfl, _, rfl, iteF ⟨_, rfl, rfl, _, rfl, iteF ⟨_, rfl, rfl, _, rfl, iteT ?_⟩⟩⟩⟩⟩
      obtain ⟨i0, i1⟩ := no_unt no
      obtain ⟨bs, x1, x2⟩ := X.bd
      have lb : bs.length = m.bd.length := by rw [x2.len, List.length_map]
      refine ⟨_, rfl, d', _, rfl, mk_bd X.dk, .inl ⟨rfl, _, .inl (.inl x1)⟩, _, rfl, t, _, 1, _, rfl, rfl, .inl (.inl ht1), atI_nat (j := 1) rfl, b', bs, i, i.toNat, _, rfl, rfl, x1, by omega, by omega, ?_, List.getElem?_eq_getElem (by omega), ?_⟩
      · exact seqIndex_of i0 (by omega)
      · refine ⟨_, rfl, q d' o' u' b' _ (su nb) nd no' nu nb ?_⟩
        obtain ⟨ws, w1, w2⟩ := X.wd
        have kk : Kt H1 (upd H1 b' (.lst (bs.eraseIdx i.toNat))) := kt_lst x1
        refine ⟨by rw [upd_ne (ne_of X.dk x1 (fun z => nomatch z))]; exact X.dk, by rw [upd_ne X.nob]; exact X.own, ⟨ws, by rw [upd_ne X.nwb]; exact w1, w2.keep kk⟩, ⟨_, upd_same, ?_⟩, X.now, X.nob, X.nwb⟩
        show Rows _ _ ((m.bd.eraseIdx i.toNat).map Bd.row)
        rw [erase_mapX]
        exact (Rows.erase _ x2).keep kk
    | wo z =>
      refine ⟨_, rfl, rfl, _, rfl, iteF ⟨_, rfl, rfl, _, rfl, iteF ⟨_, rfl, rfl, _, rfl, iteF ⟨_, rfl, rfl, _, rfl, iteF ⟨_, rfl, rfl, _, rfl, iteF ?_⟩⟩⟩⟩⟩
      obtain ⟨o, u, b, ws, bs, h1, h2, h3, h4, h5, h6, h7⟩ := (M.same s1).ex
      refine ⟨_, rfl, d, _, rfl, mk_own h1, o, rfl, ⟨_, .inl (.inl h2)⟩, fun D1 nD1 => ?_⟩
      refine lc_pure m.own (walk_listN (by rw [List.length_map])) (fun x => if (!decide (x = z)) = true then some x else none) (SV V.str) (fun _ h => h) nD1 (by omega) (fun H s => .inl (.inl (s _ _ h2))) ?_ ?_
      · rintro j x v H10 _ ex s10 ⟨rfl, hv⟩ Good Bad kt kf
        rw [List.getElem?_map, ex] at hv
        cases hv
        refine ⟨rfl, _, rfl, _, rfl, t, _, 1, _, rfl, rfl, .inl (.inl (s10 _ _ ht1)), atI_nat (j := 1) rfl, rfl, _, rfl, ?_⟩
        rw [show (!decide (V.str x = V.str z)) = (!decide (x = z)) by simp]
        cases e : (!decide (x = z)) with
        | true => exact iteT ⟨_, rfl, kt _ _ _ (by rw [if_pos e]) (Same.refl _) rfl⟩
        | false => exact iteF (kf (by rw [if_neg (by rw [e]; simp)]) _ (Same.refl _))
      · intro H10 acc1 s10 d10 p10
        rw [fm_filter] at p10
        have e10 := paired_enc p10
        subst e10
        have X10 := X.same s10
        obtain ⟨ws1, x1, x2⟩ := X10.wd
        obtain ⟨bs1, x3, x4⟩ := X10.bd
        have nD1w : D1 ≠ u' := fun e => by
          obtain ⟨_, w1, _⟩ := X.wd
          rw [e, w1] at nD1
          cases nD1
        have nD1b : D1 ≠ b' := fun e => by
          obtain ⟨_, w1, _⟩ := X.bd
          rw [e, w1] at nD1
          cases nD1
        have nD1d : D1 ≠ d' := fun e => by
          have w1 := X.dk
          rw [← e, nD1] at w1
          cases w1
        have nD1H : H D1 = none := s1.free nD1
        refine ⟨_, rfl, d', _, rfl, DPut.k (k := kOwn) X10.dk (by show 4 < sizeLine; decide), ?_⟩
        rw [mk_putOwn]
        have X11 := X10.head (l := m.last) (o' := D1) (w' := u') (m' := { m with own := m.own.filter fun x => !decide (x = z) }) rfl rfl d10 x1 x2 nD1w nD1b X10.nwb
        have s11 : Same H (upd H10 d' (.dK (Tw.mk m.last D1 u' b'))) := fun y v e => by
          rw [upd_ne (ne_of_none e nd)]
          exact s10 _ _ (s1 _ _ e)
        have k11 : Kt H (upd H10 d' (.dK (Tw.mk m.last D1 u' b'))) := Kt.of s11
        have ht11 := s11 _ _ ht
        generalize upd H10 d' (.dK (Tw.mk m.last D1 u' b')) = H11 at X11 s11 k11 ht11 ⊢
        obtain ⟨o, u, b, ws, bs, h1, h2, h3, h4, h5, h6, h7⟩ := (M.same s11).ex
        refine ⟨_, rfl, d, _, rfl, mk_wd h1, u, rfl, ⟨_, .inl (.inl h3)⟩, fun D2 nD2 => ?_⟩
        refine lc_pure m.wd (walk_listN (by rw [h4.len, List.length_map])) (fun x => if (!decide (x.en = z)) = true then some x else none) (SR Wd.row) sr_k nD2 (by omega) (fun H s => .inl (.inl (s _ _ h3))) ?_ ?_
        · rintro j x v H12 _ ex s12 ⟨rfl, hv⟩ Good Bad kt kf
          obtain ⟨t2, rfl, ht2⟩ := rows_at h4 hv ex
          have ht2' := s12 _ _ ht2
          refine ⟨rfl, _, rfl, t2, _, 0, _, rfl, rfl, .inl (.inl ht2'), atI_nat (j := 0) rfl, _, rfl, t, _, 1, _, rfl, rfl, .inl (.inl (s12 _ _ ht11)), atI_nat (j := 1) rfl, rfl, _, rfl, ?_⟩
          rw [show (!decide (V.str x.en = V.str z)) = (!decide (x.en = z)) by simp]
          cases e : (!decide (x.en = z)) with
          | true => exact iteT ⟨_, rfl, kt _ _ _ (by rw [if_pos e]) (Same.refl _) ⟨t2, rfl, ht2'⟩⟩
          | false => exact iteF (kf (by rw [if_neg (by rw [e]; simp)]) _ (Same.refl _))
        · intro H12 acc2 s12 d12 p12
          rw [fm_filter] at p12
          have r12 := paired_rows p12
          have X12 := X11.same s12
          have nD2o : D1 ≠ D2 := ne_of_none X11.own nD2
          have nD2b : D2 ≠ b' := fun e => by
            obtain ⟨_, w1, _⟩ := X11.bd
            rw [e, w1] at nD2
            cases nD2
          refine ⟨_, rfl, d', _, rfl, DPut.k (k := kWd) X12.dk (by show 4 < sizeLine; decide), ?_⟩
          rw [putWdK]
          refine ⟨_, rfl, q d' D1 D2 b' _ (fun y v e => ?_) nd nD1H (s11.free nD2) nb (X12.head (l := m.last) (o' := D1) (w' := D2) (m' := m.drp z) rfl rfl X12.own d12 r12 nD2o nD1b nD2b)⟩
          rw [upd_ne (ne_of_none e nd)]
          exact s12 _ _ (s11 _ _ e)
end
end Tw

set_option maxHeartbeats 4000000
namespace Tw
open PySem PySem.Spec PyProof.Rows L2
/-! the law's deeds drawn, dealt and told -/
def freshL : List Str := ["a", "bb", "c", "zzzzzzzz", "by", "tie", "k", "ab", "x"]
theorem fresh_nm {v : V} (h : v ∈ freshL.map V.str) : ∃ z, v = .str z ∧ Nm z := by
  obtain ⟨z, hz, rfl⟩ := List.mem_map.1 h
  exact ⟨z, rfl, nmB_ok.1 (List.all_eq_true.1 (show freshL.all nmB = true by decide +kernel) z hz)⟩
theorem nm_gone : Nm "gone" := nmB_ok.1 (by decide +kernel)
theorem mem_strs {v : V} {l : List Str} (h : v ∈ l.map V.str) : ∃ z, v = .str z ∧ z ∈ l := by
  obtain ⟨z, hz, rfl⟩ := List.mem_map.1 h
  exact ⟨z, rfl, hz⟩
theorem kept_ne {f l : Addr} {H : Hp} {zs : List V} (h : H f = some (.lst zs)) (n : H l = none) : l ≠ f := fun e => by
  rw [e, h] at n
  cases n
section
variable {P : Program} {w : World} {K : PySem.W.Frag} {mg : Str → Option Value} {base : Heap}
def sp_sdd : Sp := fun vs H Q _ => ∃ (f c d : Addr) (m : Md), vs = [.ref f, .ref d] ∧ Flow H f c ∧ MdAt H d m ∧ DOk m ∧ ∀ (t : Addr) (x : Dd) (H' : Hp), Sb f H H' → Flow H' f c → H t = none → H' t = some (.tup x.row) → x.Ns → Q (.ref t) H'
theorem cal__law_some_deed (T : Tp K mg) : Cal P w K mg base 5 "_law_some_deed" sp_sdd := by
  obtain ⟨fd, F⟩ := f__law_some_deed T
  refine cal_of F (g__law_some_deed T) (b__law_some_deed F) sc__law_some_deed (fun vs H Q E h => ?_) (fun cdv A outer s H vs Q E hr h => ?_)
  · obtain ⟨f, c, d, m, rfl, _⟩ := h
    rfl
  · obtain ⟨f, c, d, m, rfl, FL, M, ok, q⟩ := h
    have hu := hu_of hr
    obtain ⟨l1, l2, l3⟩ := ok.len
    have lp : m.pts.length ≤ 15 := by
      unfold Md.pts
      rw [List.length_cons, List.length_append, List.length_map]
      omega
    have lp0 : 0 < m.pts.length := by
      unfold Md.pts
      rw [List.length_cons]
      omega
    have ptV : ∀ {v : V}, v ∈ m.pts.map V.str → ∃ z, v = .str z ∧ Nm z := fun h => let ⟨z, e, hz⟩ := mem_strs h; ⟨z, e, ok.nm z hz⟩
    refine ⟨_, (pss_cons (ps_set (i := 2) sc__law_some_deed.nd rfl (.inl rfl) (C8.pe_c (cal__law_draw T) hr (by decide) rfl (pa_cons (pv 0) (pa_cons pe_int pa_nil))))
      (pss_cons (ps_set (i := 3) sc__law_some_deed.nd rfl (.inl rfl) (C8.pe_c (cal__law_points T) hr (by decide) rfl (pa_cons (pv 1) pa_nil)))
      (pss_cons (ps_set (i := 4) sc__law_some_deed.nd rfl (.inl rfl) (C8.pe_c (cal__law_pick T) hr (by decide) rfl (pa_cons (pv 0) (pa_cons (pe_lst (pa_cons pe_str (pa_cons pe_str (pa_cons pe_str (pa_cons pe_str (pa_cons pe_str (pa_cons pe_str (pa_cons pe_str (pa_cons pe_str (pa_cons pe_str pa_nil)))))))))) pa_nil))))
      (pss_cons (ps_if (pt_cmpR op_eq (pv 2) pe_int (nomark _)) (pss_one (ps_ret (pe_tup (pa_cons pe_str (pa_cons (C8.pe_c (cal__law_pick T) hr (by decide) rfl (pa_cons (pv 0) (pa_cons (pe_lst (pa_cons (pe_op op_add pe_int (C8.pe_c (cal__law_draw T) hr (by decide) rfl (pa_cons (pv 0) (pa_cons pe_int pa_nil)))) (pa_cons pe_int (pa_cons pe_int (pa_cons pe_int pa_nil))))) pa_nil))) pa_nil))))) pss_nil)
      (pss_cons (ps_if (PW.pt (pw_or (pt_cmpR op_lt (pv 2) pe_int (nomark _)) (pw_or1 (pt_cmpR op_lt (pe_callB call_len_seq (by rfl) (z_len T) bb_len (pa_cons (pv 3) pa_nil)) pe_int (nomark _))))) (pss_one (ps_ret (pe_tup (pa_cons pe_str (pa_cons (C8.pe_c (cal__law_pick T) hr (by decide) rfl (pa_cons (pv 0) (pa_cons (pe_lst (pa_cons (pv 4) (pa_cons (pv 4) (pa_cons (pv 4) (pa_cons (C8.pe_c (cal__law_pick T) hr (by decide) rfl (pa_cons (pv 0) (pa_cons (pv 3) pa_nil))) pa_nil))))) pa_nil))) pa_nil))))) pss_nil)
      (pss_cons (ps_if (pt_cmpR op_lt (pv 2) pe_int (nomark _)) (pss_cons (ps_set (i := 5) sc__law_some_deed.nd rfl (.inl rfl) (C8.pe_c (cal__law_draw T) hr (by decide) rfl (pa_cons (pv 0) (pa_cons pe_int pa_nil))))
        (pss_cons (ps_set (i := 6) sc__law_some_deed.nd rfl (.inl rfl) (C8.pe_c (cal__law_pick T) hr (by decide) rfl (pa_cons (pv 0) (pa_cons (pe_op op_cat (pe_op op_cat (pe_lst (pa_cons pe_str pa_nil)) (pe_dget hu (pv 1) pe_str (fun _ _ => rfl))) (pv 3)) pa_nil))))
        (pss_cons (ps_set (i := 7) sc__law_some_deed.nd rfl (.inl rfl) (C8.pe_c (cal__law_pick T) hr (by decide) rfl (pa_cons (pv 0) (pa_cons (pe_lst (pa_cons pe_int (pa_cons pe_int (pa_cons pe_int (pa_cons pe_non (pa_cons pe_int pa_nil)))))) pa_nil))))
        (pss_one (ps_ret (pe_tup (pa_cons pe_str (pa_cons (pv 4) (pa_cons (pv 6) (pa_cons (pv 5) (pa_cons (pe_op op_add (pv 5) (C8.pe_c (cal__law_draw T) hr (by decide) rfl (pa_cons (pv 0) (pa_cons pe_int pa_nil)))) (pa_cons (pv 7) pa_nil)))))))))))) pss_nil)
      (pss_cons (ps_if (pt_cmpR op_lt (pv 2) pe_int (nomark _)) (pss_cons (ps_asg (C8.pe_c (cal__law_bond T) hr (by decide) rfl (pa_cons (pv 0) (pa_cons (pv 3) (pa_cons pe_int pa_nil)))) (pg_tup rfl (pgs_cons (pg_name (i := 8) sc__law_some_deed.nd rfl (.inl rfl)) (pgs_cons (pg_name (i := 9) sc__law_some_deed.nd rfl (.inl rfl)) (pgs_cons (pg_name (i := 10) sc__law_some_deed.nd rfl (.inl rfl)) (pgs_cons (pg_name (i := 11) sc__law_some_deed.nd rfl (.inl rfl)) pgs_nil))))))
        (pss_one (ps_ret (pe_tup (pa_cons pe_str (pa_cons (pv 8) (pa_cons (C8.pe_c (cal__law_pick T) hr (by decide) rfl (pa_cons (pv 0) (pa_cons (pe_lst (pa_cons (pv 9) (pa_cons (pv 9) (pa_cons (pv 9) (pa_cons (pv 8) (pa_cons pe_str pa_nil)))))) pa_nil))) (pa_cons (pv 10) (pa_cons (pv 11) pa_nil))))))))) pss_nil)
      (pss_cons (ps_if (pt_cmpR op_eq (pv 2) pe_int (nomark _)) (pss_one (ps_ret (pe_tup (pa_cons pe_str (pa_cons (C8.pe_c (cal__law_draw T) hr (by decide) rfl (pa_cons (pv 0) (pa_cons pe_int pa_nil))) pa_nil))))) pss_nil)
      (pss_one (ps_ret (pe_tup (pa_cons pe_str (pa_cons (C8.pe_c (cal__law_pick T) hr (by decide) rfl (pa_cons (pv 0) (pa_cons (pe_op op_cat (pv 3) (pe_lst (pa_cons (pv 4) pa_nil))) pa_nil))) pa_nil))))))))))))), ?_⟩
    refine ⟨_, rfl, f, c, 13, rfl, FL, by decide, by decide, fun k H1 k0 k1 sb1 F1 => ?_⟩
    have M1 := M.sb FL sb1
    refine ⟨_, rfl, d, m, rfl, M1, by omega, by omega, fun pl H2 s2 npl hpl => ?_⟩
    have F2 := F1.same s2
    have M2 := M1.same s2
    have sb2 := sb1.trans (Sb.of s2)
    obtain ⟨zf, hf⟩ := FL.lst
    obtain ⟨zf2, hf2⟩ := F2.lst
    refine ⟨_, rfl, (by show 9 ≤ sizeLine; decide), fun l nl => ⟨f, c, l, _, rfl, F2.same (same_upd nl), upd_same, kept_ne hf2 nl, by decide, by decide, fun v H3 hv sb3 F3 => ?_⟩⟩
    obtain ⟨z, rfl, nz⟩ := fresh_nm hv
    have sbA : Sb f H H3 := (sb2.trans (Sb.of (same_upd nl))).trans sb3
    have M3 := M.sb FL sbA
    obtain ⟨zf3, hf3⟩ := F3.lst
    have nplf : pl ≠ f := kept_ne (F1.lst.choose_spec) npl
    have hpl3 : H3 pl = some (.lst (m.pts.map V.str)) := sb3 _ _ (same_upd nl _ _ hpl) nplf
    generalize upd H2 l _ = HX at sb3
    clear hv
    -- the end of every branch
    have fin : ∀ (H' : Hp) (t : Addr) (x : Dd), Sb f H H' → Flow H' f c → H' t = none → x.Ns → Q (.ref t) (upd H' t (.tup x.row)) := fun H' t x sb FF nt nx => by
      obtain ⟨zg, hg⟩ := FF.lst
      exact q t x _ (sb.trans (Sb.of (same_upd nt))) (FF.same (same_upd nt)) (sb_free sb FF nt) upd_same nx
    refine ⟨_, rfl, rfl, _, rfl, ?_⟩
    by_cases e0 : V.int k = V.int 0
    · rw [decide_eq_true e0]
      refine iteT ⟨_, rfl, _, rfl, f, c, 60, rfl, F3, by decide, by decide, fun v4 H4 _ _ sb4 F4 => ⟨_, _, rfl, rfl, (by show 4 ≤ sizeLine; decide), fun l2 nl2 => ?_⟩⟩
      obtain ⟨zf4, hf4⟩ := F4.lst
      refine ⟨f, c, l2, _, rfl, F4.same (same_upd nl2), upd_same, kept_ne hf4 nl2, Nat.le_of_ble_eq_true rfl, Nat.le_of_ble_eq_true rfl, fun v5 H5 hv5 sb5 F5 => ⟨(by show 2 ≤ sizeLine; decide), fun t nt => ?_⟩⟩
      have : ∃ i, v5 = V.int i := by
        simp only [List.mem_cons, List.not_mem_nil, or_false] at hv5
        rcases hv5 with e | e | e | e <;> exact ⟨_, e⟩
      obtain ⟨i, rfl⟩ := this
      exact fin _ t (.las i) (((sbA.trans sb4).trans (Sb.of (same_upd nl2))).trans sb5) F5 nt trivial
    rw [decide_eq_false e0]
    refine iteF ⟨_, rfl, _, _, rfl, rfl, _, rfl, ?_⟩
    by_cases k4 : k < 4
    · rw [decide_eq_true k4]
      refine iteT ?_
      refine iteT ⟨_, rfl, _, rfl, _, rfl, _, rfl, _, rfl, _, rfl, f, c, pl, _, rfl, F3, hpl3, nplf, by rw [List.length_map]; exact lp0, by rw [List.length_map]; omega, fun v4 H4 hv4 sb4 F4 => ⟨(by show 4 ≤ sizeLine; decide), fun l2 nl2 => ?_⟩⟩
      obtain ⟨zf4, hf4⟩ := F4.lst
      refine ⟨f, c, l2, _, rfl, F4.same (same_upd nl2), upd_same, kept_ne hf4 nl2, Nat.le_of_ble_eq_true rfl, Nat.le_of_ble_eq_true rfl, fun v5 H5 hv5 sb5 F5 => ⟨(by show 2 ≤ sizeLine; decide), fun t nt => ?_⟩⟩
      obtain ⟨z4, rfl, nz4⟩ := ptV hv4
      have : ∃ i, v5 = V.str i ∧ Nm i := by
        simp only [List.mem_cons, List.not_mem_nil, or_false] at hv5
        rcases hv5 with e | e | e | e
        · exact ⟨z, e, nz⟩
        · exact ⟨z, e, nz⟩
        · exact ⟨z, e, nz⟩
        · exact ⟨z4, e, nz4⟩
      obtain ⟨i, rfl, ni⟩ := this
      exact fin _ t (.mom i) (((sbA.trans sb4).trans (Sb.of (same_upd nl2))).trans sb5) F5 nt ni
    rw [decide_eq_false k4]
    refine iteF ⟨_, rfl, pl, _, rfl, .inl (.inl (.inl hpl3)), _, _, rfl, rfl, _, rfl, ?_⟩
    rw [List.length_map]
    by_cases k5 : (m.pts.length : Int) < 2
    · rw [decide_eq_true k5]
      refine iteT ⟨_, rfl, _, rfl, _, rfl, _, rfl, _, rfl, _, rfl, f, c, pl, _, rfl, F3, hpl3, nplf, by rw [List.length_map]; exact lp0, by rw [List.length_map]; omega, fun v4 H4 hv4 sb4 F4 => ⟨(by show 4 ≤ sizeLine; decide), fun l2 nl2 => ?_⟩⟩
      obtain ⟨zf4, hf4⟩ := F4.lst
      refine ⟨f, c, l2, _, rfl, F4.same (same_upd nl2), upd_same, kept_ne hf4 nl2, Nat.le_of_ble_eq_true rfl, Nat.le_of_ble_eq_true rfl, fun v5 H5 hv5 sb5 F5 => ⟨(by show 2 ≤ sizeLine; decide), fun t nt => ?_⟩⟩
      obtain ⟨z4, rfl, nz4⟩ := ptV hv4
      have : ∃ i, v5 = V.str i ∧ Nm i := by
        simp only [List.mem_cons, List.not_mem_nil, or_false] at hv5
        rcases hv5 with e | e | e | e
        · exact ⟨z, e, nz⟩
        · exact ⟨z, e, nz⟩
        · exact ⟨z, e, nz⟩
        · exact ⟨z4, e, nz4⟩
      obtain ⟨i, rfl, ni⟩ := this
      exact fin _ t (.mom i) (((sbA.trans sb4).trans (Sb.of (same_upd nl2))).trans sb5) F5 nt ni
    rw [decide_eq_false k5]
    refine iteF ⟨_, rfl, _, _, rfl, rfl, _, rfl, ?_⟩
    by_cases k7 : k < 7
    · rw [decide_eq_true k7]
      refine iteT ⟨_, rfl, f, c, 6, rfl, F3, by decide, by decide, fun lo H4 _ _ sb4 F4 => ?_⟩
      have M4 := M3.sb F3 sb4
      obtain ⟨o, u, b, ws, bs, h1, h2, h3, h4, h5, h6, h7⟩ := M4.ex
      have hpl4 : H4 pl = some (.lst (m.pts.map V.str)) := sb4 _ _ hpl3 nplf
      refine ⟨_, rfl, (by show 1 ≤ sizeLine; decide), fun a na => ?_⟩
      have s5 := same_upd (o := .lst [.str "start"]) na
      refine ⟨_, rfl, d, _, rfl, mk_own (s5 _ _ h1), a, o, _, _, rfl, rfl, upd_same, s5 _ _ h2, ?_, fun b nb => ?_⟩
      · rw [List.length_map]
        exact Nat.le_of_lt (small1000 (by show 1 + _ ≤ 1000; omega))
      have s6 := same_upd (o := .lst ([.str "start"] ++ m.own.map V.str)) nb
      refine ⟨_, rfl, b, pl, _, _, rfl, rfl, upd_same, s6 _ _ (s5 _ _ hpl4), ?_, fun g ng => ?_⟩
      · rw [List.length_append, List.length_map, List.length_map]
        exact Nat.le_of_lt (small1000 (by show 1 + _ + _ ≤ 1000; omega))
      have s7 := same_upd (o := .lst (([.str "start"] ++ m.own.map V.str) ++ m.pts.map V.str)) ng
      have sC := (s5.trans s6).trans s7
      have F7 := F4.same sC
      obtain ⟨zf6, hf6⟩ := (F4.same (s5.trans s6)).lst
      refine ⟨f, c, g, _, rfl, F7, upd_same, kept_ne hf6 ng, ?_, ?_, fun v5 H5 hv5 sb5 F5 => ?_⟩
      · rw [List.length_append, List.length_append]
        exact Nat.lt_of_lt_of_le (show 0 < 1 from Nat.zero_lt_one) (by show 1 ≤ 1 + _ + _; omega)
      · rw [List.length_append, List.length_append, List.length_map, List.length_map]
        show 1 + _ + _ ≤ 1000
        omega
      have : ∃ i, v5 = V.str i ∧ Nm i := by
        rcases List.mem_append.1 hv5 with e | e
        · refine ptV ?_
          rcases List.mem_append.1 e with e | e
          · rw [List.mem_singleton.1 e]
            exact List.mem_cons_self
          · obtain ⟨z5, e5, h5⟩ := mem_strs e
            exact List.mem_map.2 ⟨z5, List.mem_cons_of_mem _ (List.mem_append_left _ h5), e5.symm⟩
        · exact ptV e
      obtain ⟨bg, rfl, nbg⟩ := this
      have sbD := ((sbA.trans sb4).trans (Sb.of sC)).trans sb5
      refine ⟨_, rfl, (by show 5 ≤ sizeLine; decide), fun l2 nl2 => ?_⟩
      obtain ⟨zf5, hf5⟩ := F5.lst
      refine ⟨f, c, l2, _, rfl, F5.same (same_upd nl2), upd_same, kept_ne hf5 nl2, Nat.le_of_ble_eq_true rfl, Nat.le_of_ble_eq_true rfl, fun v6 H6 hv6 sb6 F6 => ?_⟩
      have : ∃ la : Option Int, v6 = oV la := by
        simp only [List.mem_cons, List.not_mem_nil, or_false] at hv6
        rcases hv6 with e | e | e | e | e
        · exact ⟨some 0, e⟩
        · exact ⟨some 0, e⟩
        · exact ⟨some 1, e⟩
        · exact ⟨none, e⟩
        · exact ⟨some 5, e⟩
      obtain ⟨la, rfl⟩ := this
      refine ⟨_, rfl, _, rfl, _, rfl, _, rfl, _, rfl, f, c, 5, rfl, F6, by decide, by decide, fun dl H7 _ _ sb7 F7 => ⟨_, _, rfl, rfl, _, rfl, (by show 6 ≤ sizeLine; decide), fun t nt => ?_⟩⟩
      exact fin _ t (.span ⟨z, bg, lo, lo + dl, la⟩) (((sbD.trans (Sb.of (same_upd nl2))).trans sb6).trans sb7) F7 nt ⟨nz, nbg⟩
    rw [decide_eq_false k7]
    refine iteF ⟨_, rfl, _, _, rfl, rfl, _, rfl, ?_⟩
    by_cases k11 : k < 11
    · rw [decide_eq_true k11]
      refine iteT ⟨_, rfl, _, rfl, f, c, pl, m.pts, 6, rfl, F3, hpl3, by omega, by omega, ok.nd, by decide, by decide, fun tb x H4 sb4 F4 ntb htb bok => ?_⟩
      refine ⟨tb, _, rfl, .inl (.inl htb), rfl, _, _, rfl, _, _, rfl, _, _, rfl, _, _, rfl, rfl, ?_⟩
      refine ⟨_, rfl, _, rfl, _, rfl, _, rfl, _, rfl, _, rfl, (by show 5 ≤ sizeLine; decide), fun l2 nl2 => ?_⟩
      obtain ⟨zf4, hf4⟩ := F4.lst
      refine ⟨f, c, l2, _, rfl, F4.same (same_upd nl2), upd_same, kept_ne hf4 nl2, Nat.le_of_ble_eq_true rfl, Nat.le_of_ble_eq_true rfl, fun v5 H5 hv5 sb5 F5 => ⟨_, rfl, _, rfl, (by show 5 ≤ sizeLine; decide), fun t nt => ?_⟩⟩
      have n1 := ok.nm _ bok.one
      have n2 := ok.nm _ bok.oth
      have : ∃ i, v5 = V.str i ∧ Nm i := by
        simp only [List.mem_cons, List.not_mem_nil, or_false] at hv5
        rcases hv5 with e | e | e | e | e
        · exact ⟨_, e, n2⟩
        · exact ⟨_, e, n2⟩
        · exact ⟨_, e, n2⟩
        · exact ⟨_, e, n1⟩
        · exact ⟨_, e, nm_gone⟩
      obtain ⟨i, rfl, ni⟩ := this
      exact fin _ t (.tie ⟨x.one, i, x.bot, x.top⟩) (((sbA.trans sb4).trans (Sb.of (same_upd nl2))).trans sb5) F5 nt ⟨n1, ni⟩
    rw [decide_eq_false k11]
    refine iteF ⟨_, rfl, rfl, _, rfl, ?_⟩
    by_cases e11 : V.int k = V.int 11
    · rw [decide_eq_true e11]
      refine iteT ⟨_, rfl, f, c, 5, rfl, F3, by decide, by decide, fun i H4 _ _ sb4 F4 => ⟨(by show 2 ≤ sizeLine; decide), fun t nt => ?_⟩⟩
      exact fin _ t (.unt i) (sbA.trans sb4) F4 nt trivial
    rw [decide_eq_false e11]
    refine iteF ⟨_, rfl, _, rfl, _, rfl, (by show 1 ≤ sizeLine; decide), fun l2 nl2 => ?_⟩
    have s4 := same_upd (o := .lst [.str z]) nl2
    refine ⟨pl, l2, _, _, rfl, rfl, s4 _ _ hpl3, upd_same, ?_, fun g ng => ?_⟩
    · rw [List.length_map]
      exact Nat.le_of_lt (small1000 (by show _ + 1 ≤ 1000; omega))
    have s5 := same_upd (o := .lst (m.pts.map V.str ++ [.str z])) ng
    obtain ⟨zf5, hf5⟩ := (F3.same s4).lst
    refine ⟨f, c, g, _, rfl, (F3.same s4).same s5, upd_same, kept_ne hf5 ng, ?_, ?_, fun v5 H5 hv5 sb5 F5 => ⟨(by show 2 ≤ sizeLine; decide), fun t nt => ?_⟩⟩
    · rw [List.length_append]
      show 0 < _ + 1
      omega
    · rw [List.length_append, List.length_map]
      show _ + 1 ≤ 1000
      omega
    have : ∃ i, v5 = V.str i ∧ Nm i := by
      rcases List.mem_append.1 hv5 with e | e
      · exact ptV e
      · exact ⟨z, List.mem_singleton.1 e, nz⟩
    obtain ⟨i, rfl, ni⟩ := this
    exact fin _ t (.wo i) ((sbA.trans (Sb.of (s4.trans s5))).trans sb5) F5 nt ni
/-! ### the first book -/
def sp_lbook : Sp := fun vs H Q _ => vs = [] ∧ ∀ (l t d o u b : Addr) (H' : Hp), Same H H' → H l = none → H d = none → H o = none → H u = none → H b = none → l ≠ o ∧ l ≠ u ∧ l ≠ b → H' l = some (.lst [.ref t]) → H' t = some (.tup [.non, .ref d]) → MdX H' d o u b (mdE 100) → Q (.ref l) H'
/-! ### several deeds -/
def dealtW (m : Md) (xs : List Dd) : Str := match dealt m xs with
  | .error r => r.1
  | .ok _ => ""
theorem dealtW_err {m : Md} {xs : List Dd} {r : Rf} (h : dealt m xs = .error r) : dealtW m xs = r.1 := by
  unfold dealtW
  rw [h]
theorem dealtW_ok {m m' : Md} {xs : List Dd} (h : dealt m xs = .ok m') : dealtW m xs = "" := by
  unfold dealtW
  rw [h]
theorem rfw1 {c f : Str} {v : V} (h : decide (c = "") = false) : ¬ (rf1 c f v).1 = "" := fun e => of_decide_eq_false h e
theorem rfw2 {c f g : Str} {v u : V} (h : decide (c = "") = false) : ¬ (rf2 c f g v u).1 = "" := fun e => of_decide_eq_false h e
theorem no_ne {m : Md} {x : Dd} {r : Rf} (h : x.no m = some r) : ¬ r.1 = "" := by
  cases x <;> (simp only [Dd.no] at h; repeat' split at h) <;> first | (cases h; done) | (cases h; exact rfw1 (by decide +kernel)) | (cases h; exact rfw2 (by decide +kernel))
/-- a picture that is new since H -/
def NewX (H H' : Hp) (d : Addr) (m : Md) : Prop := ∃ o u b, MdX H' d o u b m ∧ H d = none ∧ H o = none ∧ H u = none ∧ H b = none
theorem NewX.same {H H1 H2 : Hp} {d : Addr} {m : Md} (n : NewX H H1 d m) (s : Same H1 H2) : NewX H H2 d m := by
  obtain ⟨o, u, b, X, h⟩ := n
  exact ⟨o, u, b, X.same s, h⟩
def sp_ldealt : Sp := fun vs H Q _ => ∃ (d D : Addr) (m : Md) (ts : List V) (xs : List Dd), vs = [.ref d, .ref D] ∧ MdAt H d m ∧ DOk m ∧ H D = some (.lst ts) ∧ Rows H ts (xs.map Dd.row) ∧ (∀ x ∈ xs, x.Ns) ∧ xs ≠ [] ∧ ∀ (t d' : Addr) (H' : Hp), Same H H' → H' t = some (.tup [.str (dealtW m xs), .ref d']) → (∀ m', dealt m xs = .ok m' → NewX H H' d' m' ∧ DOk m') → Q (.ref t) H'
theorem cal__law_dealt (T : Tp K mg) : Cal P w K mg base 6 "_law_dealt" sp_ldealt := by
  obtain ⟨fd, F⟩ := f__law_dealt T
  refine cal_of F (g__law_dealt T) (b__law_dealt F) sc__law_dealt (fun vs H Q E h => ?_) (fun cdv A outer s H vs Q E hr h => ?_)
  · obtain ⟨d, D, m, ts, xs, rfl, _⟩ := h
    rfl
  · obtain ⟨d, D, m, ts, xs, rfl, M, ok, hD, R, ns, ne, q⟩ := h
    refine ⟨_, (pss_cons (ps_set (i := 2) sc__law_dealt.nd rfl (.inl rfl) pe_str)
      (pss_cons (ps_for PassesOwn.never rfl (pi_list (pv 1)) (pg_name (i := 3) sc__law_dealt.nd rfl (.inl rfl))
        (pss_one (ps_if (pt_cmpR op_eq (pv 2) pe_str (nomark _)) (pss_cons (ps_set (i := 2) sc__law_dealt.nd rfl (.inl rfl) (C8.pe_c (cal__law_deed_word T) hr (by decide) rfl (pa_cons (pv 0) (pa_cons (pv 3) pa_nil))))
          (pss_one (ps_set (i := 0) sc__law_dealt.nd rfl (.inl rfl) (pe_ifExp (pt_cmpR op_eq (pv 2) pe_str (nomark _)) (C8.pe_c (cal__law_deed_done T) hr (by decide) rfl (pa_cons (pv 0) (pa_cons (pv 3) pa_nil))) (pv 0))))) pss_nil)))
      (pss_one (ps_ret (pe_tup (pa_cons (pv 2) (pa_cons (pv 0) pa_nil))))))), ?_⟩
    have lts : ts.length = xs.length := by rw [R.len, List.length_map]
    refine ⟨_, rfl, D, rfl, ⟨_, .inl (.inl hD)⟩, for_list (K := K) (a := D) (xs := ts) (fun i σ H' => ∃ (di : Addr) (wi : Str) (y : Option V), σ = [some (.ref di), some (.ref D), some (.str wi), y] ∧ Same H H' ∧ ((wi = "" ∧ ∃ mi, dealt m xs = dealt mi (xs.drop i) ∧ DOk mi ∧ MdAt H' di mi ∧ (i = 0 ∨ NewX H H' di mi)) ∨ (¬ wi = "" ∧ ∃ r, dealt m xs = .error r ∧ wi = r.1))) ⟨d, "", none, rfl, Same.refl _, .inl ⟨rfl, m, by rw [List.drop_zero], ok, M, .inl rfl⟩⟩ (fun i σ H' _ ⟨_, _, _, _, s', _⟩ => .inl (.inl (s' _ _ hD))) ?_ ?_⟩
    · rintro i v σ H1 hv ⟨di, wi, y, rfl, s1, D1⟩
      obtain ⟨r, hx, t1, rfl, ht1⟩ := paired_at R hv
      rw [List.getElem?_map] at hx
      obtain ⟨x, ex, rfl⟩ := Option.map_eq_some_iff.1 hx
      have nx := ns x (List.mem_of_getElem? ex)
      refine ⟨_, rfl, rfl, _, rfl, ?_⟩
      rcases D1 with ⟨rfl, mi, ed, ok1, M1, _⟩ | ⟨nw, r, er, e1⟩
      · rw [dealt_at (m := m) ex] at ed
        refine iteT ⟨_, rfl, _, rfl, di, t1, mi, x, rfl, M1, ok1, s1 _ _ ht1, nx, fun H2 s2 => ⟨_, rfl, rfl, _, rfl, ?_⟩⟩
        have sA := s1.trans s2
        cases hn : x.no mi with
        | none =>
          rw [wrd_none hn]
          refine iteT ⟨_, rfl, _, rfl, di, t1, mi, x, rfl, M1.same s2, ok1, sA _ _ ht1, hn, fun d' o' u' b' H3 s3 nd no nu nb X => ?_⟩
          exact ⟨d', "", _, rfl, sA.trans s3, .inl ⟨rfl, x.did mi, by rw [ed, dealt_none hn], did_ok ok1 hn nx, X.at, .inr ⟨o', u', b', X, sA.free nd, sA.free no, sA.free nu, sA.free nb⟩⟩⟩
        | some r =>
          have en := no_ne hn
          rw [wrd_some hn, decide_eq_false (show ¬ V.str r.1 = V.str "" from fun e => en (V.str.inj e))]
          exact iteF ⟨_, rfl, di, r.1, _, rfl, sA, .inr ⟨en, r, by rw [ed, dealt_some hn], rfl⟩⟩
      · rw [decide_eq_false (show ¬ V.str wi = V.str "" from fun e => nw (V.str.inj e))]
        exact iteF ⟨di, wi, _, rfl, s1, .inr ⟨nw, r, er, e1⟩⟩
    · rintro σ H1 ⟨di, wi, y, rfl, s1, D1⟩
      refine ⟨_, rfl, _, rfl, (by show 2 ≤ sizeLine; decide), fun t nt => ?_⟩
      have st := same_upd (o := .tup [.str wi, .ref di]) nt
      rcases D1 with ⟨rfl, mi, ed, ok1, M1, c⟩ | ⟨nw, r, er, e1⟩
      · rw [lts, List.drop_length] at ed
        have ed : dealt m xs = .ok mi := ed
        refine q t di _ (s1.trans st) (by rw [dealtW_ok ed]; exact upd_same) fun m' e => ?_
        rw [ed] at e
        cases e
        rcases c with c | c
        · rw [lts] at c
          exact absurd (List.length_eq_zero_iff.1 c) ne
        · exact ⟨c.same st, ok1⟩
      · refine q t di _ (s1.trans st) (by rw [dealtW_err er, ← e1]; exact upd_same) fun m' e => ?_
        rw [er] at e
        cases e
/-! ### what an entry comes to -/
def sp_lew : Sp := fun vs H Q _ => ∃ (d : Addr) (v : V) (m : Md) (xs : List Dd), vs = [.ref d, v] ∧ MdAt H d m ∧ DOk m ∧ ToAt H v xs ∧ (∀ x ∈ xs, x.Ns) ∧ xs ≠ [] ∧ ∀ (t d' : Addr) (H' : Hp), Same H H' → H' t = some (.tup [.str (dealtW m xs), .ref d']) → (∀ m', dealt m xs = .ok m' → NewX H H' d' m' ∧ DOk m') → Q (.ref t) H'
theorem cal__law_entry_word (T : Tp K mg) : Cal P w K mg base 8 "_law_entry_word" sp_lew := by
  obtain ⟨fd, F⟩ := f__law_entry_word T
  refine cal_of F (g__law_entry_word T) (b__law_entry_word F) sc__law_entry_word (fun vs H Q E h => ?_) (fun cdv A outer s H vs Q E hr h => ?_)
  · obtain ⟨d, v, m, xs, rfl, _⟩ := h
    rfl
  · obtain ⟨d, v, m, xs, rfl, M, ok, A1, ns, ne, q⟩ := h
    refine ⟨_, (pss_cons (ps_if (pt_val (pe_callB call_isK (by rfl) (z_isinstance T) bb_isinstance (pa_cons (pv 1) (pa_cons (pe_bltn (v := .ty "list") (by rfl) (z_list T) bb_list rfl) pa_nil)))) (pss_one (ps_ret (C8.pe_c (cal__law_dealt T) hr (by decide) rfl (pa_cons (pv 0) (pa_cons (pv 1) pa_nil))))) pss_nil)
      (pss_cons (ps_set (i := 2) sc__law_entry_word.nd rfl (.inl rfl) (C8.pe_c (cal__law_deed_word T) hr (by decide) rfl (pa_cons (pv 0) (pa_cons (pv 1) pa_nil))))
      (pss_one (ps_ret (pe_tup (pa_cons (pv 2) (pa_cons (pe_ifExp (pt_cmpR op_eq (pv 2) pe_str (nomark _)) (C8.pe_c (cal__law_deed_done T) hr (by decide) rfl (pa_cons (pv 0) (pa_cons (pv 1) pa_nil))) (pv 0)) pa_nil))))))), ?_⟩
    rcases A1 with ⟨t, x, rfl, rfl, ht⟩ | ⟨n1, D, ts, rfl, hD, R⟩
    · have nx := ns x (List.mem_singleton.2 rfl)
      refine ⟨_, rfl, .ref t, "list", "tuple", rfl, .base (.tup ht), by decide, by decide, _, rfl, iteF ?_⟩
      refine ⟨_, rfl, _, rfl, d, t, m, x, rfl, M, ok, ht, nx, fun H1 s1 => ?_⟩
      cases hn : x.no m with
      | none =>
        rw [wrd_none hn]
        refine ⟨_, rfl, _, rfl, rfl, _, rfl, iteT ⟨_, rfl, _, rfl, d, t, m, x, rfl, M.same s1, ok, s1 _ _ ht, hn, fun d' o' u' b' H2 s2 nd no nu nb X => ⟨(by show 2 ≤ sizeLine; decide), fun t2 nt2 => ?_⟩⟩⟩
        have st := same_upd (o := .tup [.str "", .ref d']) nt2
        have e0 : dealt m [x] = .ok (x.did m) := by rw [dealt_none hn]; rfl
        refine q t2 d' _ ((s1.trans s2).trans st) (by rw [dealtW_ok e0]; exact upd_same) fun m' e => ?_
        rw [e0] at e
        cases e
        exact ⟨⟨o', u', b', X.same st, s1.free nd, s1.free no, s1.free nu, s1.free nb⟩, did_ok ok hn nx⟩
      | some r =>
        have en := no_ne hn
        rw [wrd_some hn]
        refine ⟨_, rfl, _, rfl, rfl, _, rfl, ?_⟩
        rw [decide_eq_false (show ¬ V.str r.1 = V.str "" from fun e => en (V.str.inj e))]
        refine iteF ⟨_, rfl, (by show 2 ≤ sizeLine; decide), fun t2 nt2 => ?_⟩
        have st := same_upd (o := .tup [.str r.1, .ref d]) nt2
        have e0 : dealt m [x] = .error r := dealt_some hn
        refine q t2 d _ (s1.trans st) (by rw [dealtW_err e0]; exact upd_same) fun m' e => ?_
        rw [e0] at e
        cases e
    · refine ⟨_, rfl, .ref D, "list", "list", rfl, .base (.lst hD), by decide, by decide, _, rfl, iteT ?_⟩
      exact ⟨_, rfl, _, rfl, d, D, m, ts, xs, rfl, M, ok, hD, R, ns, ne, q⟩
/-! ### an entry drawn -/
theorem MdX.offL {H : Hp} {d o w b D : Addr} {m : Md} {ys zs : List V} (M : MdX H d o w b m) (h : H D = some (.lst ys)) (n1 : o ≠ D) (n2 : w ≠ D) (n3 : b ≠ D) : MdX (upd H D (.lst zs)) d o w b m := by
  obtain ⟨ws, x1, x2⟩ := M.wd
  obtain ⟨bs, x3, x4⟩ := M.bd
  have kk : Kt H (upd H D (.lst zs)) := kt_lst h
  exact ⟨by rw [upd_ne (ne_of M.dk h (fun z => nomatch z))]; exact M.dk, by rw [upd_ne n1]; exact M.own, ⟨ws, by rw [upd_ne n2]; exact x1, x2.keep kk⟩, ⟨bs, by rw [upd_ne n3]; exact x3, x4.keep kk⟩, M.now, M.nob, M.nwb⟩
theorem MdAt.x {H : Hp} {d : Addr} {m : Md} (M : MdAt H d m) : ∃ o w b, MdX H d o w b m := by
  obtain ⟨o, w, b, ws, bs, h1, h2, h3, h4, h5, h6, h7, h8, h9⟩ := M.ex
  exact ⟨o, w, b, h1, h2, ⟨ws, h3, h4⟩, ⟨bs, h5, h6⟩, h7, h8, h9⟩
def sp_lse : Sp := fun vs H Q _ => ∃ (f c d : Addr) (m : Md), vs = [.ref f, .ref d] ∧ Flow H f c ∧ MdAt H d m ∧ DOk m ∧ ∀ (t : Addr) (xs : List Dd) (H' : Hp), Sb f H H' → Flow H' f c → H t = none → ToAt H' (.ref t) xs → xs ≠ [] → xs.length ≤ 4 → (∀ x ∈ xs, x.Ns) → Q (.ref t) H'
theorem cal__law_some_entry (T : Tp K mg) : Cal P w K mg base 8 "_law_some_entry" sp_lse := by
  obtain ⟨fd, F⟩ := f__law_some_entry T
  refine cal_of F (g__law_some_entry T) (b__law_some_entry F) sc__law_some_entry (fun vs H Q E h => ?_) (fun cdv A outer s H vs Q E hr h => ?_)
  · obtain ⟨f, c, d, m, rfl, _⟩ := h
    rfl
  · obtain ⟨f, c, d, m, rfl, FL, M, ok, q⟩ := h
    refine ⟨_, (pss_cons (ps_if (pt_cmpR op_gt (C8.pe_c (cal__law_draw T) hr (by decide) rfl (pa_cons (pv 0) (pa_cons pe_int pa_nil))) pe_int (nomark _)) (pss_one (ps_ret (C8.pe_c (cal__law_some_deed T) hr (by decide) rfl (pa_cons (pv 0) (pa_cons (pv 1) pa_nil))))) pss_nil)
      (pss_cons (ps_par (i := 2) (j := 3) (by rfl) sc__law_some_entry.nd rfl rfl (by decide) rfl rfl (pa_cons (pe_lst pa_nil) (pa_cons (pv 1) pa_nil)) (by rfl))
      (pss_cons (ps_for PassesOwn.never rfl (pi_range1 rfl (z_range T) (pa_cons (pe_op op_add pe_int (C8.pe_c (cal__law_draw T) hr (by decide) rfl (pa_cons (pv 0) (pa_cons pe_int pa_nil)))) pa_nil)) (pg_name (i := 4) sc__law_some_entry.nd rfl (.inl rfl))
        (pss_cons (ps_set (i := 5) sc__law_some_entry.nd rfl (.inl rfl) (C8.pe_c (cal__law_some_deed T) hr (by decide) rfl (pa_cons (pv 0) (pa_cons (pv 3) pa_nil))))
        (pss_cons (ps_expr (pe_bm PySem.F.plainAttrs_list PySem.F.slot_list_append PySem.F.type_list_append mt_append (pv 2) (pa_cons (pv 5) pa_nil)))
        (pss_one (ps_if (pt_cmpR op_eq (C8.pe_c (cal__law_deed_word T) hr (by decide) rfl (pa_cons (pv 3) (pa_cons (pv 5) pa_nil))) pe_str (nomark _)) (pss_one (ps_set (i := 3) sc__law_some_entry.nd rfl (.inl rfl) (C8.pe_c (cal__law_deed_done T) hr (by decide) rfl (pa_cons (pv 3) (pa_cons (pv 5) pa_nil))))) pss_nil)))))
      (pss_one (ps_ret (pv 2)))))), ?_⟩
    refine ⟨_, rfl, f, c, 4, rfl, FL, by decide, by decide, fun k H1 k0 k1 sb1 F1 => ⟨_, _, rfl, rfl, _, rfl, ?_⟩⟩
    have M1 := M.sb FL sb1
    by_cases k2 : 0 < k
    · rw [decide_eq_true k2]
      refine iteT ⟨_, rfl, _, rfl, f, c, d, m, rfl, F1, M1, ok, fun t x H2 sb2 F2 nt ht nx => ?_⟩
      exact q t [x] H2 (sb1.trans sb2) F2 (sb_free sb1 F1 nt) (.inl ⟨t, x, rfl, rfl, ht⟩) (fun z => nomatch z) (by show 1 ≤ 4; decide) fun y hy => by rw [List.mem_singleton.1 hy]; exact nx
    rw [decide_eq_false k2]
    refine iteF ⟨Nat.zero_le _, fun D nD => ?_⟩
    have s2 := same_upd (o := .lst []) nD
    have hD0 : (upd H1 D (.lst [])) D = some (.lst []) := upd_same
    have F2 := F1.same s2
    have M2 := M1.same s2
    have nDH : H D = none := sb_free sb1 F1 nD
    have sb2 := sb1.trans (Sb.of s2)
    obtain ⟨o0, u0, b0, X1⟩ := M1.x
    have X2 := X1.same s2
    obtain ⟨ws0, w1, _⟩ := X1.wd
    obtain ⟨bs0, b1, _⟩ := X1.bd
    have no0 := ne_of_none X1.own nD
    have nu0 := ne_of_none w1 nD
    have nb0 := ne_of_none b1 nD
    obtain ⟨zf, hf⟩ := F1.lst
    obtain ⟨zc, hc⟩ := F1.cells
    have nfD : f ≠ D := ne_of_none hf nD
    have ncD : c ≠ D := ne_of_none hc nD
    clear w1 b1 hf hc
    generalize upd H1 D (.lst []) = H2 at s2 hD0 F2 M2 sb2 X2 ⊢
    refine ⟨_, rfl, _, _, rfl, ?_⟩
    refine ⟨_, rfl, f, c, 3, rfl, F2, by decide, by decide, fun v H3 v0 v3 sb3 F3 => ⟨_, _, rfl, rfl, _, rfl, by omega, by omega, ?_⟩⟩
    refine for_range (lo := 0) (n := (2 + v).toNat) (fun i σ H' => ∃ (hd o u b : Addr) (mi : Md) (y4 y5 : Option V) (ts : List V) (xs : List Dd), σ = [some (.ref f), some (.ref d), some (.ref D), some (.ref hd), y4, y5] ∧ Sb f H H' ∧ Flow H' f c ∧ H' D = some (.lst ts) ∧ Rows H' ts (xs.map Dd.row) ∧ xs.length = i ∧ (∀ x ∈ xs, x.Ns) ∧ MdX H' hd o u b mi ∧ o ≠ D ∧ u ≠ D ∧ b ≠ D ∧ DOk mi) ⟨d, o0, u0, b0, m, none, none, [], [], rfl, sb2.trans sb3, F3, sb3 _ _ hD0 nfD.symm, .nil, rfl, (fun x hx => nomatch hx), X2.sb F2 sb3, no0, nu0, nb0, ok⟩ ?_ ?_
    · rintro i σ H4 hi ⟨hd, o, u, b, mi, y4, y5, ts, xs, rfl, sb4, F4, hD4, R4, l4, ns4, X4, n1, n2, n3, ok4⟩
      refine ⟨_, rfl, _, rfl, f, c, hd, mi, rfl, F4, X4.at, ok4, fun t x H5 sb5 F5 nt ht nx => ?_⟩
      have hD5 := sb5 _ _ hD4 nfD.symm
      obtain ⟨zf4, hf4⟩ := F4.lst
      have R5 := R4.keep (sb5.kt hf4)
      have X5 := X4.sb F4 sb5
      have lts : ts.length = xs.length := by rw [R4.len, List.length_map]
      refine ⟨_, rfl, .inl ⟨rfl, _, .inl (.inl hD5)⟩, _, rfl, D, ts, _, rfl, rfl, hD5, small1000 (by omega), ?_⟩
      have X6 := X5.offL (zs := ts ++ [.ref t]) hD5 n1 n2 n3
      have ht6 := (kt_lst (ys := ts ++ [.ref t]) hD5) _ _ ht
      have R6 := (R5.snoc ht).keep (kt_lst (ys := ts ++ [.ref t]) hD5)
      have F6 : Flow (upd H5 D (.lst (ts ++ [.ref t]))) f c := F5.upd nfD ncD
      have hD6 : (upd H5 D (.lst (ts ++ [.ref t]))) D = some (.lst (ts ++ [.ref t])) := upd_same
      have sb6 : Sb f H (upd H5 D (.lst (ts ++ [.ref t]))) := fun y v e n => by
        rw [upd_ne (ne_of_none e nDH)]
        exact sb5 _ _ (sb4 _ _ e n) n
      generalize upd H5 D (.lst (ts ++ [.ref t])) = H6 at X6 ht6 R6 F6 hD6 sb6 ⊢
      have ns6 : ∀ y ∈ xs ++ [x], y.Ns := fun y hy => (List.mem_append.1 hy).elim (ns4 y) fun e => by rw [List.mem_singleton.1 e]; exact nx
      have l6 : (xs ++ [x]).length = i + 1 := by rw [List.length_append, l4]; rfl
      have R6 : Rows H6 (ts ++ [.ref t]) ((xs ++ [x]).map Dd.row) := by rw [List.map_append]; exact R6
      refine ⟨_, rfl, _, rfl, hd, t, mi, x, rfl, X6.at, ok4, ht6, nx, fun H7 s7 => ⟨rfl, _, rfl, ?_⟩⟩
      have keep7 : ∀ {H8 : Hp} {hd' o' u' b' : Addr} {m8 : Md} {y8 : Option V}, Same H6 H8 → MdX H8 hd' o' u' b' m8 → o' ≠ D → u' ≠ D → b' ≠ D → DOk m8 → ∃ (hd o u b : Addr) (mi : Md) (y4 y5 : Option V) (ts : List V) (xs : List Dd), ([some (.ref f), some (.ref d), some (.ref D), some (.ref hd'), y8, some (.ref t)] : L2.St) = [some (.ref f), some (.ref d), some (.ref D), some (.ref hd), y4, y5] ∧ Sb f H H8 ∧ Flow H8 f c ∧ H8 D = some (.lst ts) ∧ Rows H8 ts (xs.map Dd.row) ∧ xs.length = i + 1 ∧ (∀ x ∈ xs, x.Ns) ∧ MdX H8 hd o u b mi ∧ o ≠ D ∧ u ≠ D ∧ b ≠ D ∧ DOk mi := fun {H8 hd' o' u' b' m8 y8} s8 X8 a1 a2 a3 k8 => ⟨hd', o', u', b', m8, y8, _, _, xs ++ [x], rfl, sb6.trans (Sb.of s8), F6.same s8, s8 _ _ hD6, R6.keep (Kt.of s8), l6, ns6, X8, a1, a2, a3, k8⟩
      cases hn : x.no mi with
      | none =>
        rw [wrd_none hn]
        refine iteT ⟨_, rfl, _, rfl, hd, t, mi, x, rfl, (X6.same s7).at, ok4, s7 _ _ ht6, hn, fun d' o' u' b' H8 s8 nd no nu nb X8 => ?_⟩
        have hD7 := s7 _ _ hD6
        exact keep7 (s7.trans s8) X8 (ne_of_none hD7 no).symm (ne_of_none hD7 nu).symm (ne_of_none hD7 nb).symm (did_ok ok4 hn nx)
      | some r =>
        rw [wrd_some hn, decide_eq_false (show ¬ V.str r.1 = V.str "" from fun e => no_ne hn (V.str.inj e))]
        exact iteF (keep7 s7 (X6.same s7) n1 n2 n3 ok4)
    · rintro σ H4 ⟨hd, o, u, b, mi, y4, y5, ts, xs, rfl, sb4, F4, hD4, R4, l4, ns4, X4, n1, n2, n3, ok4⟩
      exact ⟨_, rfl, q D xs H4 sb4 F4 nDH (.inr ⟨by omega, D, ts, rfl, hD4, R4⟩) (fun z => by rw [z] at l4; simp at l4; omega) (by omega) ns4⟩
end
end Tw

set_option maxHeartbeats 4000000
namespace Tw
open PySem PySem.Spec PyProof.Rows L2
open LamX (ExtN Tabs)
/-! k58: a log beside the law's two rows -/
/-- the places that change -/
def Mw (f st wt : Addr) (a : LgP) (y : Addr) : Prop := y = f ∨ y = st ∨ y = wt ∨ y = a.p ∨ y = a.w ∨ y = a.d ∨ y = a.u
/-- all stays but them and tables -/
def KmL (M : Addr → Prop) (H H' : Hp) : Prop := ∀ y o, H y = some o → (∀ ps, o ≠ .tbl ps) → ¬ M y → H' y = some o
/-- nothing is there, or a table -/
def NoT (H : Hp) (y : Addr) : Prop := ∀ o, H y = some o → ∃ ps, o = .tbl ps
/-- an entry as the law keeps it -/
def EnAt (M : Addr → Prop) (H : Hp) (y : V) : Option (List Dd) → Prop
  | none => y = .non
  | some xs => ToAt H y xs ∧ (xs.length ≠ 1 → ∃ D, y = .ref D ∧ ¬ M D)
abbrev Rw8 := Option (List Dd) × Md
/-- the web that a log begins with -/
class L0 where
  l : Int
  lo : 1 ≤ l
  hi : l ≤ 1000
abbrev md0 [i : L0] : Md := mdE i.l
/-- each entry comes from the picture ahead of it -/
def Chn8 : Md → List (List Dd × Md) → Prop
  | _, [] => True
  | m, r :: rs => dealt m r.1 = .ok r.2 ∧ Chn8 r.2 rs
def lastM (m : Md) (ss : List (List Dd × Md)) : Md := match ss.getLast? with
  | none => m
  | some r => r.2
theorem chn_app : ∀ {a b : List (List Dd × Md)} {m : Md}, Chn8 m (a ++ b) → Chn8 m a
  | [], _, _, _ => trivial
  | _ :: _, _, _, h => ⟨h.1, chn_app h.2⟩
theorem chn_snoc : ∀ {a : List (List Dd × Md)} {m : Md} {r : List Dd × Md}, Chn8 m a → dealt (lastM m a) r.1 = .ok r.2 → Chn8 m (a ++ [r])
  | [], _, _, _, e => ⟨e, trivial⟩
  | [x], _, _, h, e => ⟨h.1, e, trivial⟩
  | x :: y :: t, m, r, h, e => ⟨h.1, chn_snoc (a := y :: t) h.2 (by
    have : lastM m (x :: y :: t) = lastM x.2 (y :: t) := by
      unfold lastM
      rw [List.getLast?_cons_cons]
      cases z : (y :: t).getLast? with
      | none => cases List.getLast?_eq_none_iff.1 z
      | some v => rfl
    rw [← this]
    exact e)⟩
def StB (M : Addr → Prop) (H : Hp) (y : V) (dm : Addr) (r : Rw8) : Prop := ∃ o u b, MdX H dm o u b r.2 ∧ (¬ M dm ∧ ¬ M o ∧ ¬ M u ∧ ¬ M b) ∧ EnAt M H y r.1
def StAt (M : Addr → Prop) (H : Hp) (v : V) (r : Rw8) : Prop := ∃ t y dm, v = .ref t ∧ H t = some (.tup [y, .ref dm]) ∧ StB M H y dm r
theorem StB.km {M M' : Addr → Prop} {H H' : Hp} {y : V} {dm : Addr} {r : Rw8} (h : StB M H y dm r) (k : KmL M H H') (n : ∀ y, M y → ∀ zs, H y ≠ some (.tup zs)) (g : ∀ y, M' y → M y ∨ NoT H y) : StB M' H' y dm r := by
  obtain ⟨o, u, b, X, ⟨n1, n2, n3, n4⟩, e⟩ := h
  have kt : Kt H H' := fun z zs e => k _ _ e (fun ps z => nomatch z) fun h => n z h zs e
  obtain ⟨ws, w1, w2⟩ := X.wd
  obtain ⟨bs, b1, b2⟩ := X.bd
  have off : ∀ {z : Addr} {x : HO}, H z = some x → (∀ ps, x ≠ .tbl ps) → ¬ M z → ¬ M' z := fun e t n h => (g _ h).elim n fun z => let ⟨ps, e2⟩ := z _ e; t ps e2
  refine ⟨o, u, b, ⟨k _ _ X.dk (fun ps z => nomatch z) n1, k _ _ X.own (fun ps z => nomatch z) n2, ⟨ws, k _ _ w1 (fun ps z => nomatch z) n3, w2.keep kt⟩, ⟨bs, k _ _ b1 (fun ps z => nomatch z) n4, b2.keep kt⟩, X.now, X.nob, X.nwb⟩, ⟨off X.dk (fun ps z => nomatch z) n1, off X.own (fun ps z => nomatch z) n2, off w1 (fun ps z => nomatch z) n3, off b1 (fun ps z => nomatch z) n4⟩, ?_⟩
  obtain ⟨r1, r2⟩ := r
  cases r1 with
  | none => exact e
  | some xs =>
    obtain ⟨e1, e2⟩ := e
    rcases e1 with ⟨t1, x, ex, ev, h1⟩ | ⟨l1, D, ts, ev, h1, R⟩
    · exact ⟨.inl ⟨t1, x, ex, ev, kt _ _ h1⟩, fun z => absurd (by rw [ex]; rfl) z⟩
    · obtain ⟨D', eD, nD⟩ := e2 l1
      rw [ev] at eD
      cases eD
      exact ⟨.inr ⟨l1, D, ts, ev, k _ _ h1 (fun ps z => nomatch z) nD, R.keep kt⟩, fun _ => ⟨D, ev, off h1 (fun ps z => nomatch z) nD⟩⟩
theorem StAt.km {M M' : Addr → Prop} {H H' : Hp} {v : V} {r : Rw8} (h : StAt M H v r) (k : KmL M H H') (n : ∀ y, M y → ∀ zs, H y ≠ some (.tup zs)) (g : ∀ y, M' y → M y ∨ NoT H y) : StAt M' H' v r := by
  obtain ⟨t, y, dm, rfl, ht, b⟩ := h
  exact ⟨t, y, dm, rfl, k _ _ ht (fun ps z => nomatch z) (fun h => n t h _ ht), b.km k n g⟩
/-- the law's rows -/
def rowsOf [L0] (ss : List (List Dd × Md)) : List Rw8 := (none, md0) :: ss.map fun r => (some r.1, r.2)
theorem rows_snoc [L0] (ss : List (List Dd × Md)) (r : List Dd × Md) : rowsOf (ss ++ [r]) = rowsOf ss ++ [(some r.1, r.2)] := by
  unfold rowsOf
  rw [List.map_append]
  rfl
theorem rows_len [L0] (ss : List (List Dd × Md)) : (rowsOf ss).length = ss.length + 1 := by
  unfold rowsOf
  rw [List.length_cons, List.length_map]
structure Ap8 (f c st wt : Addr) (a : LgP) : Prop where
  ff : f ≠ st ∧ f ≠ wt ∧ f ≠ a.w ∧ f ≠ a.d ∧ f ≠ a.u
  cc : c ≠ st ∧ c ≠ wt ∧ c ≠ a.w ∧ c ≠ a.d ∧ c ≠ a.u
  ss : st ≠ wt ∧ st ≠ a.w ∧ st ≠ a.d ∧ st ≠ a.u
  ww : wt ≠ a.w ∧ wt ≠ a.d ∧ wt ≠ a.u
structure Gr8 (r : List Dd × Md) : Prop where
  ok : DOk r.2
  ne : r.1 ≠ []
  le : r.1.length ≤ 4
  ns : ∀ x ∈ r.1, x.Ns
def lgOf [L0] (ss us : List (List Dd × Md)) : Lg := ⟨(rowsOf ss).map (·.2), ss.map (·.1), us⟩
/-- .. and those of other logs beside it -/
def Mz (O : Addr → Prop) (f st wt : Addr) (a : LgP) (y : Addr) : Prop := Mw f st wt a y ∨ O y
theorem KmL.o {O : Addr → Prop} {f st wt : Addr} {a : LgP} {H H' : Hp} (k : KmL (Mw f st wt a) H H') : KmL (Mz O f st wt a) H H' := fun y o e t n => k _ _ e t fun h => n (.inl h)
structure J58 [L0] (Ts : List (Addr × Str)) (K : PySem.W.Frag) (O : Addr → Prop) (f c st wt : Addr) (a : LgP) (H : Hp) (ss us : List (List Dd × Md)) : Prop where
  fl : Flow H f c
  lg : LgAt K H a (lgOf ss us)
  hst : ∃ vs, H st = some (.lst vs) ∧ Paired (StAt (Mz O f st wt a) H) vs (rowsOf ss)
  hwt : ∃ vs, H wt = some (.lst vs) ∧ Paired (StAt (Mz O f st wt a) H) vs (us.map fun r => (some r.1, r.2))
  ap : Ap8 f c st wt a
  tab : Tabs Ts H
  gs : ∀ r ∈ ss, Gr8 r
  gu : ∀ r ∈ us, Gr8 r
  oo : ∀ y, O y → ∃ o, H y = some o ∧ (∀ zs, o ≠ .tup zs) ∧ ∀ ps, o ≠ .tbl ps
  od : ∀ y, O y → ¬ Mw f st wt a y
section
variable {Ts : List (Addr × Str)} {K : PySem.W.Frag} {O : Addr → Prop} {f c st wt : Addr} {a a' : LgP} {H H2 : Hp} {ss us ss' us' : List (List Dd × Md)}
theorem J58.occ [L0] (J : J58 Ts K O f c st wt a H ss us) {y : Addr} (h : Mz O f st wt a y) : ∃ o, H y = some o ∧ (∀ zs, o ≠ .tup zs) ∧ ∀ ps, o ≠ .tbl ps := by
  rcases h with h | h
  rotate_left
  · exact J.oo _ h
  obtain ⟨zf, hf⟩ := J.fl.lst
  obtain ⟨vs, h1, _⟩ := J.hst
  obtain ⟨ws, h2, _⟩ := J.hwt
  obtain ⟨xs, h3, _⟩ := J.lg.webs
  obtain ⟨ds, h4, _⟩ := J.lg.done
  obtain ⟨rs, h5, _⟩ := J.lg.und
  rcases h with h | h | h | h | h | h | h <;> subst h
  · exact ⟨_, hf, (fun zs z => nomatch z), fun ps z => nomatch z⟩
  · exact ⟨_, h1, (fun zs z => nomatch z), fun ps z => nomatch z⟩
  · exact ⟨_, h2, (fun zs z => nomatch z), fun ps z => nomatch z⟩
  · exact ⟨_, J.lg.obj, (fun zs z => nomatch z), fun ps z => nomatch z⟩
  · exact ⟨_, h3, (fun zs z => nomatch z), fun ps z => nomatch z⟩
  · exact ⟨_, h4, (fun zs z => nomatch z), fun ps z => nomatch z⟩
  · exact ⟨_, h5, (fun zs z => nomatch z), fun ps z => nomatch z⟩
theorem J58.nt [L0] (J : J58 Ts K O f c st wt a H ss us) : ∀ y, Mz O f st wt a y → ∀ zs, H y ≠ some (.tup zs) := fun y h zs e => by
  obtain ⟨o, e2, n, _⟩ := J.occ h
  rw [e] at e2
  cases e2
  exact n zs rfl
theorem J58.new [L0] (J : J58 Ts K O f c st wt a H ss us) {y : Addr} (n : H y = none) : ¬ Mz O f st wt a y := fun h => by
  obtain ⟨o, e2, _⟩ := J.occ h
  rw [n] at e2
  cases e2
theorem J58.kt [L0] (J : J58 Ts K O f c st wt a H ss us) (k : KmL (Mw f st wt a) H H2) : Kt H H2 := fun z zs e => k _ _ e (fun ps z => nomatch z) fun h => J.nt z (.inl h) zs e
theorem J58.newW [L0] (J : J58 Ts K O f c st wt a H ss us) {y : Addr} (n : H y = none) : ¬ Mw f st wt a y := fun h => J.new n (.inl h)
theorem J58.rows [L0] (J : J58 Ts K O f c st wt a H ss us) (k : KmL (Mw f st wt a) H H2) (g : ∀ y, Mw f st wt a' y → Mw f st wt a y ∨ NoT H y) {vs : List V} {rs : List Rw8} (P : Paired (StAt (Mz O f st wt a) H) vs rs) : Paired (StAt (Mz O f st wt a') H2) vs rs := Paired.mono (fun _ _ h => h.km k.o J.nt fun y h => h.elim (fun h => (g y h).imp .inl id) fun h => .inl (.inr h)) P
theorem J58.os [L0] (J : J58 Ts K O f c st wt a H ss us) (k : KmL (Mw f st wt a) H H2) : ∀ y, O y → ∃ o, H2 y = some o ∧ (∀ zs, o ≠ .tup zs) ∧ ∀ ps, o ≠ .tbl ps := fun y h => by
  obtain ⟨o, e, n1, n2⟩ := J.oo y h
  exact ⟨o, k _ _ e n2 (J.od y h), n1, n2⟩
/-- what the log says of webs stays where webs do -/
theorem kw_ext [L0] (J : J58 Ts K O f c st wt a H ss us) (s : ExtN H H2) : Kw K H H2 := ⟨fun z zs e => s _ _ e (fun ps z => nomatch z), fun q dx l a b c e => s _ _ e (fun ps z => nomatch z)⟩
theorem J58.same [L0] (J : J58 Ts K O f c st wt a H ss us) (s : Same H H2) : J58 Ts K O f c st wt a H2 ss us := by
  obtain ⟨vs, h1, h2⟩ := J.hst
  obtain ⟨ws, h3, h4⟩ := J.hwt
  have k : KmL (Mw f st wt a) H H2 := fun y o e _ _ => s _ _ e
  exact ⟨J.fl.same s, J.lg.same s, ⟨vs, s _ _ h1, J.rows k (fun _ h => .inl h) h2⟩, ⟨ws, s _ _ h3, J.rows k (fun _ h => .inl h) h4⟩, J.ap, tabs_same J.tab s, J.gs, J.gu, J.os k, J.od⟩
theorem J58.ext [L0] (J : J58 Ts K O f c st wt a H ss us) (s : ExtN H H2) (t : Tabs Ts H2) : J58 Ts K O f c st wt a H2 ss us := by
  obtain ⟨vs, h1, h2⟩ := J.hst
  obtain ⟨ws, h3, h4⟩ := J.hwt
  have k : KmL (Mw f st wt a) H H2 := fun y o e n _ => s _ _ e n
  refine ⟨J.fl.keep (fun o e => by obtain ⟨zf, hf⟩ := J.fl.lst; rw [hf] at e; cases e; exact s _ _ hf (fun ps z => nomatch z)) (fun o e => by obtain ⟨zf, hf⟩ := J.fl.cells; rw [hf] at e; cases e; exact s _ _ hf (fun ps z => nomatch z)), J.lg.keep (kw_ext J s) (fun o e => ?_) (fun x xs _ e => s _ _ e (fun ps z => nomatch z)), ⟨vs, s _ _ h1 (fun ps z => nomatch z), J.rows k (fun _ h => .inl h) h2⟩, ⟨ws, s _ _ h3 (fun ps z => nomatch z), J.rows k (fun _ h => .inl h) h4⟩, J.ap, t, J.gs, J.gu, J.os k, J.od⟩
  rw [J.lg.obj] at e
  cases e
  exact s _ _ J.lg.obj (fun ps z => nomatch z)
theorem J58.npf [L0] (J : J58 Ts K O f c st wt a H ss us) {y : Addr} {xs : List V} (h : H y = some (.lst xs)) : a.p ≠ y := ne_of J.lg.obj h (fun z => nomatch z)
theorem J58.sbf [L0] (J : J58 Ts K O f c st wt a H ss us) (s : Sb f H H2) (F : Flow H2 f c) : J58 Ts K O f c st wt a H2 ss us := by
  obtain ⟨vs, h1, h2⟩ := J.hst
  obtain ⟨ws, h3, h4⟩ := J.hwt
  obtain ⟨zf, hf⟩ := J.fl.lst
  have k : KmL (Mw f st wt a) H H2 := fun y o e _ n => s _ _ e fun z => n (.inl z)
  have kw : Kw K H H2 := ⟨s.kt hf, fun q dx l a b c e => s _ _ e (ne_of e hf (fun z => nomatch z))⟩
  obtain ⟨n1, n2, n3, n4, n5⟩ := J.ap.ff
  refine ⟨F, J.lg.keep kw (fun o e => s _ _ e (J.npf hf)) (fun x xs hx e => s _ _ e ?_), ⟨vs, s _ _ h1 n1.symm, J.rows k (fun _ h => .inl h) h2⟩, ⟨ws, s _ _ h3 n2.symm, J.rows k (fun _ h => .inl h) h4⟩, J.ap, tabs_sb J.tab s hf, J.gs, J.gu, J.os k, J.od⟩
  rcases hx with h | h | h <;> subst h
  · exact n3.symm
  · exact n4.symm
  · exact n5.symm
/-- from before a step of the log to behind the law's own -/
structure Fin8 (f c st wt : Addr) (a a' : LgP) (X : Addr → Prop) (H H3 H7 : Hp) : Prop where
  k3 : KmL (fun y => y = a.p ∨ y = a.w ∨ y = a.d ∨ y = a.u) H H3
  ep : a'.p = a.p
  ew : a'.w = a.w
  ed : a'.d = a.d
  eu : a'.u = a.u ∨ NoT H a'.u
  k7 : ∀ b o, H3 b = some o → b ≠ st → b ≠ wt → ¬ X b → H7 b = some o
  hX : ∀ D, X D → H D = none ∧ D ≠ a'.u ∧ ∃ zs, H3 D = some (.lst zs)
theorem Fin8.km {X : Addr → Prop} {H3 H7 : Hp} (Z : Fin8 f c st wt a a' X H H3 H7) : KmL (Mw f st wt a) H H7 := fun y o e t n => by
  refine Z.k7 _ _ (Z.k3 _ _ e t fun h => n ?_) (fun h => n (.inr (.inl h))) (fun h => n (.inr (.inr (.inl h)))) fun h => ?_
  · exact .inr (.inr (.inr h))
  · have := (Z.hX _ h).1
    rw [e] at this
    cases this
theorem Fin8.grow {X : Addr → Prop} {H3 H7 : Hp} (Z : Fin8 f c st wt a a' X H H3 H7) : ∀ y, Mw f st wt a' y → Mw f st wt a y ∨ NoT H y := fun y h => by
  rcases h with h | h | h | h | h | h | h
  · exact .inl (.inl h)
  · exact .inl (.inr (.inl h))
  · exact .inl (.inr (.inr (.inl h)))
  · exact .inl (.inr (.inr (.inr (.inl (by rw [h, Z.ep])))))
  · exact .inl (.inr (.inr (.inr (.inr (.inl (by rw [h, Z.ew]))))))
  · exact .inl (.inr (.inr (.inr (.inr (.inr (.inl (by rw [h, Z.ed])))))))
  · rcases Z.eu with e | e
    · exact .inl (.inr (.inr (.inr (.inr (.inr (.inr (by rw [h, e])))))))
    · exact .inr (by rw [h]; exact e)
theorem J58.fin [L0] {X : Addr → Prop} {H3 H7 : Hp} (J : J58 Ts K O f c st wt a H ss us) (Z : Fin8 f c st wt a a' X H H3 H7) (A : LgAt K H3 a' (lgOf ss' us')) (hs : ∃ vs, H7 st = some (.lst vs) ∧ Paired (StAt (Mz O f st wt a') H7) vs (rowsOf ss')) (hw : ∃ vs, H7 wt = some (.lst vs) ∧ Paired (StAt (Mz O f st wt a') H7) vs (us'.map fun r => (some r.1, r.2))) (tab : Tabs Ts H7) (gs : ∀ r ∈ ss', Gr8 r) (gu : ∀ r ∈ us', Gr8 r) : J58 Ts K O f c st wt a' H7 ss' us' := by
  obtain ⟨zf, hf⟩ := J.fl.lst
  obtain ⟨zc, hc⟩ := J.fl.cells
  obtain ⟨vs, h1, _⟩ := J.hst
  obtain ⟨ws, h2, _⟩ := J.hwt
  obtain ⟨xs, x1, _⟩ := J.lg.webs
  obtain ⟨ds, x2, _⟩ := J.lg.done
  obtain ⟨rs, x3, _⟩ := J.lg.und
  obtain ⟨⟨f1, f2, f3, f4, f5⟩, ⟨c1, c2, c3, c4, c5⟩, ⟨s1, s2, s3, s4⟩, ⟨w2, w3, w4⟩⟩ := J.ap
  have nX : ∀ {y : Addr} {o : HO}, H y = some o → ¬ X y := fun e h => by
    have := (Z.hX _ h).1
    rw [e] at this
    cases this
  have st3 := Z.k3 _ _ h1 (fun ps z => nomatch z) (fun h => h.elim (fun h => J.npf h1 h.symm) fun h => h.elim s2 fun h => h.elim s3 s4)
  have wt3 := Z.k3 _ _ h2 (fun ps z => nomatch z) (fun h => h.elim (fun h => J.npf h2 h.symm) fun h => h.elim w2 fun h => h.elim w3 w4)
  have un : ∀ {y : Addr} {xs : List V}, H y = some (.lst xs) → y ≠ a.u → y ≠ a'.u := fun e n h => by
    rcases Z.eu with z | z
    · exact n (h.trans z)
    · rw [← h] at z
      obtain ⟨ps, e2⟩ := z _ e
      cases e2
  refine ⟨?_, ?_, hs, hw, ?_, tab, gs, gu, J.os Z.km, fun y h m => ?_⟩
  rotate_right
  · rcases Z.grow y m with e | e
    · exact J.od y h e
    · obtain ⟨o, e2, _, n2⟩ := J.oo y h
      obtain ⟨ps, e3⟩ := e _ e2
      exact n2 ps e3
  · exact J.fl.keep (fun o e => by
      rw [hf] at e
      cases e
      exact Z.k7 _ _ (Z.k3 _ _ hf (fun ps z => nomatch z) (fun h => h.elim (fun h => J.npf hf h.symm) fun h => h.elim f3 fun h => h.elim f4 f5)) f1 f2 (nX hf)) fun o e => by
      rw [hc] at e
      cases e
      exact Z.k7 _ _ (Z.k3 _ _ hc (fun ps z => nomatch z) (fun h => h.elim (fun h => ne_of J.lg.obj hc (fun z => nomatch z) h.symm) fun h => h.elim c3 fun h => h.elim c4 c5)) c1 c2 (nX hc)
  · have nl : ∀ {y : Addr} {o : HO}, H3 y = some o → (∀ zs, o ≠ .lst zs) → H7 y = some o := fun e n => Z.k7 _ _ e (ne_of e st3 (n _)) (ne_of e wt3 (n _)) fun h => by
      obtain ⟨zs, hz⟩ := (Z.hX _ h).2.2
      rw [hz] at e
      cases e
      exact n zs rfl
    refine A.keep ⟨fun b zs e => nl e (fun zs z => nomatch z), fun q dx l a b c e => nl e (fun zs z => nomatch z)⟩ (fun o e => ?_) fun x xs hx e => ?_
    · have := A.obj
      rw [e] at this
      cases this
      exact nl e (fun zs z => nomatch z)
    · rcases hx with h | h | h <;> subst h
      · refine Z.k7 _ _ e ?_ ?_ ?_ <;> rw [Z.ew]
        · exact s2.symm
        · exact w2.symm
        · exact nX x1
      · refine Z.k7 _ _ e ?_ ?_ ?_ <;> rw [Z.ed]
        · exact s3.symm
        · exact w3.symm
        · exact nX x2
      · exact Z.k7 _ _ e (un h1 s4).symm (un h2 w4).symm fun h => (Z.hX _ h).2.1 rfl
  · refine ⟨⟨f1, f2, ?_, ?_, un hf f5⟩, ⟨c1, c2, ?_, ?_, un hc c5⟩, ⟨s1, ?_, ?_, un h1 s4⟩, ⟨?_, ?_, un h2 w4⟩⟩ <;> first | (rw [Z.ew]; assumption) | (rw [Z.ed]; assumption)
/-- tables stay where only lists and instances change -/
theorem tabs_li {T : List (Addr × Str)} {H H' : Hp} (h : Tabs T H) (k : ∀ b o, H b = some o → (∀ zs, o ≠ .lst zs) → (∀ C dx fs, o ≠ .ins C dx fs) → H' b = some o) : Tabs T H' := fun p hp => by
  obtain ⟨ps, h1, h2, h3⟩ := h p hp
  refine ⟨ps, k _ _ h1 (fun zs z => nomatch z) (fun C dx fs z => nomatch z), h2, fun pos cv hc => ?_⟩
  obtain ⟨c, e1, e2⟩ := h3 pos cv hc
  exact ⟨c, e1, k _ _ e2 (fun zs z => nomatch z) (fun C dx fs z => nomatch z)⟩
/-- the law's last picture -/
def topM [L0] (ss : List (List Dd × Md)) : Md := match ss.getLast? with
  | none => md0
  | some r => r.2
theorem rows_last [L0] (ss : List (List Dd × Md)) : ∃ rs e, rowsOf ss = rs ++ [(e, topM ss)] := by
  rcases List.eq_nil_or_concat ss with h | ⟨s0, r, h⟩
  · subst h
    exact ⟨[], none, rfl⟩
  · rw [List.concat_eq_append] at h
    subst h
    refine ⟨rowsOf s0, some r.1, ?_⟩
    rw [rows_snoc]
    unfold topM
    rw [List.getLast?_append]
    rfl
theorem J58.topOk [L0] (J : J58 Ts K O f c st wt a H ss us) : DOk (topM ss) := by
  unfold topM
  cases h : ss.getLast? with
  | none => exact ⟨⟨L0.lo, L0.hi⟩, (by show (["start"] : List Str).Nodup; decide +kernel), (fun z hz => nmB_ok.1 (by rw [show z = "start" from List.mem_singleton.1 hz]; decide +kernel)), (fun x hx => absurd hx List.not_mem_nil), (fun x hx => absurd hx List.not_mem_nil), (by show 0 ≤ 10 ∧ 0 ≤ 4 ∧ 0 ≤ 40; decide)⟩
  | some r => exact (J.gs r (List.mem_of_getLast? h)).ok
/-- the last row of the law's -/
theorem J58.last [L0] (J : J58 Ts K O f c st wt a H ss us) : ∃ vs v e, H st = some (.lst (vs ++ [v])) ∧ StAt (Mz O f st wt a) H v (e, topM ss) ∧ (vs ++ [v]).length = ss.length + 1 := by
  obtain ⟨vs, h1, h2⟩ := J.hst
  have l := h2.length
  rw [rows_len] at l
  obtain ⟨rs, e, er⟩ := rows_last ss
  rw [er] at h2
  obtain ⟨l0, v, rfl, _, hv⟩ := paired_last h2
  exact ⟨l0, v, e, h1, hv, l⟩
theorem J58.webs_last [L0] (J : J58 Ts K O f c st wt a H ss us) : ∃ ms, (lgOf ss us).webs = ms ++ [topM ss] := by
  obtain ⟨rs, e, er⟩ := rows_last ss
  refine ⟨rs.map (·.2), ?_⟩
  show (rowsOf ss).map (·.2) = _
  rw [er, List.map_append]
  rfl
end
/-! what the law asks of a log and a row of stands -/
theorem to_same {H H' : Hp} {v : V} {xs : List Dd} (h : ToAt H v xs) (s : Same H H') : ToAt H' v xs := by
  rcases h with ⟨t, x, ex, ev, ht⟩ | ⟨n1, D, ts, ev, hD, R⟩
  · exact .inl ⟨t, x, ex, ev, s _ _ ht⟩
  · exact .inr ⟨n1, D, ts, ev, s _ _ hD, R.keep (Kt.of s)⟩
theorem StAt.same {M : Addr → Prop} {H H' : Hp} {v : V} {r : Rw8} (h : StAt M H v r) (s : Same H H') : StAt M H' v r := by
  obtain ⟨t, y, dm, rfl, ht, o, u, b, X, off, e⟩ := h
  refine ⟨t, y, dm, rfl, s _ _ ht, o, u, b, X.same s, off, ?_⟩
  obtain ⟨r1, r2⟩ := r
  cases r1 with
  | none => exact e
  | some xs => exact ⟨to_same e.1 s, e.2⟩
structure S58 [L0] (K : PySem.W.Frag) (M : Addr → Prop) (st : Addr) (a : LgP) (H : Hp) (ss us : List (List Dd × Md)) : Prop where
  lg : LgAt K H a (lgOf ss us)
  hst : ∃ vs, H st = some (.lst vs) ∧ Paired (StAt M H) vs (rowsOf ss)
  gs : ∀ r ∈ ss, Gr8 r
section
variable {Ts : List (Addr × Str)} {K : PySem.W.Frag} {O M : Addr → Prop} {f c st wt : Addr} {a : LgP} {H H2 : Hp} {ss us : List (List Dd × Md)}
theorem J58.s [L0] (J : J58 Ts K O f c st wt a H ss us) : S58 K (Mz O f st wt a) st a H ss us := ⟨J.lg, J.hst, J.gs⟩
theorem S58.same [L0] (J : S58 K M st a H ss us) (s : Same H H2) : S58 K M st a H2 ss us :=
  let ⟨vs, h1, h2⟩ := J.hst
  ⟨J.lg.same s, ⟨vs, s _ _ h1, Paired.mono (fun _ _ h => h.same s) h2⟩, J.gs⟩
theorem S58.last [L0] (J : S58 K M st a H ss us) : ∃ vs v e, H st = some (.lst (vs ++ [v])) ∧ StAt M H v (e, topM ss) ∧ (vs ++ [v]).length = ss.length + 1 := by
  obtain ⟨vs, h1, h2⟩ := J.hst
  have l := h2.length
  rw [rows_len] at l
  obtain ⟨rs, e, er⟩ := rows_last ss
  rw [er] at h2
  obtain ⟨l0, v, rfl, _, hv⟩ := paired_last h2
  exact ⟨l0, v, e, h1, hv, l⟩
theorem webs_lastL [L0] (ss us : List (List Dd × Md)) : ∃ ms, (lgOf ss us).webs = ms ++ [topM ss] := by
  obtain ⟨rs, e, er⟩ := rows_last ss
  refine ⟨rs.map (·.2), ?_⟩
  show (rowsOf ss).map (·.2) = _
  rw [er, List.map_append]
  rfl
end
/-! two entries are told the same -/
theorem row_flat (x : Dd) : x.row.all flatV = true ∧ x.row.length ≤ 1000 := by
  cases x with
  | span y => exact ⟨by cases h : y.la <;> simp [Dd.row, Dd.rest, Wd.row, h, oV, flatV], Nat.le_of_ble_eq_true rfl⟩
  | tie y => exact ⟨by cases h : y.bot <;> cases h' : y.top <;> simp [Dd.row, Dd.rest, Bd.row, h, h', oV, flatV], Nat.le_of_ble_eq_true rfl⟩
  | _ => exact ⟨rfl, Nat.le_of_ble_eq_true rfl⟩
theorem sm_to {H : Hp} {v y : V} {xs : List Dd} {n : Nat} (h1 : ToAt H v xs) (h2 : ToAt H y xs) (le : xs.length ≤ 4) : Sm (n + 3) v y H := by
  rcases h1 with ⟨t, x, ex, rfl, ht⟩ | ⟨l1, D, ts, rfl, hD, R⟩
  · rcases h2 with ⟨t', x', ex', rfl, ht'⟩ | ⟨l2, _⟩
    · rw [ex] at ex'
      cases ex'
      exact sm_tup ht ht' rfl (row_flat x).2 (sm_flats (row_flat x).1)
    · exact absurd (by rw [ex]; rfl) l2
  · rcases h2 with ⟨t', x', ex', _, _⟩ | ⟨l2, D', ts', rfl, hD', R'⟩
    · exact absurd (by rw [ex']; rfl) l1
    · refine sm_rows hD hD' R R' (by rw [List.length_map]; omega) fun r hr => ?_
      obtain ⟨x, _, rfl⟩ := List.mem_map.1 hr
      exact row_flat x
section
variable {P : Program} {w : World} {K : PySem.W.Frag} {mg : Str → Option Value} {base : Heap}
def sp_ltr : Sp := fun vs H Q _ => ∃ (t : Addr) (v y : V) (xs : List Dd), vs = [.ref t, y] ∧ H t = some (.tup [v, .str ""]) ∧ ToAt H v xs ∧ ToAt H y xs ∧ xs.length ≤ 4 ∧ ∀ H', (∀ b o, H b = some o → (xs.length = 1 ∨ v ≠ .ref b) → H' b = some o) → Q (.bl true) H'
theorem cal__law_told_right (T : Tp K mg) : Cal P w K mg base 9 "_law_told_right" sp_ltr := by
  obtain ⟨fd, F⟩ := f__law_told_right T
  refine cal_of F (g__law_told_right T) (b__law_told_right F) sc__law_told_right (fun vs H Q E h => ?_) (fun cdv A outer s H vs Q E hr h => ?_)
  · obtain ⟨t, v, y, xs, rfl, _⟩ := h
    rfl
  · obtain ⟨t, v, y, xs, rfl, ht, tv, ty, le, q⟩ := h
    refine ⟨_, (pss_cons (ps_if (pt_not (pt_val (C8.pe_c (cal__law_same T) hr (by decide) rfl (pa_cons (pv 0) (pa_cons (pe_tup (pa_cons (pv 1) (pa_cons pe_str pa_nil))) pa_nil))))) (pss_one (ps_ret pe_bl)) pss_nil)
      (pss_cons (ps_if (pt_val (pe_callB call_isK (by rfl) (z_isinstance T) bb_isinstance (pa_cons (pv 1) (pa_cons (pe_bltn (v := .ty "list") (by rfl) (z_list T) bb_list rfl) pa_nil)))) (pss_one (ps_expr (pe_bm0 PySem.F.plainAttrs_list PySem.F.slot_list_clear PySem.F.type_list_clear mt_clear (pe_ix ix_tup (pv 0) pe_int (fun _ _ => rfl))))) pss_nil)
      (pss_one (ps_ret pe_bl)))), ?_⟩
    refine ⟨_, rfl, _, rfl, (by show 2 ≤ sizeLine; decide), fun u nu => ?_⟩
    have s1 := same_upd (o := .tup [y, .str ""]) nu
    have kt1 : ∀ {z : V}, ToAt H z xs → ToAt (upd H u (.tup [y, .str ""])) z xs := fun h => by
      rcases h with ⟨t, x, ex, ev, ht⟩ | ⟨n1, D, ts, ev, hD, R⟩
      · exact .inl ⟨t, x, ex, ev, s1 _ _ ht⟩
      · exact .inr ⟨n1, D, ts, ev, s1 _ _ hD, R.keep (Kt.of s1)⟩
    refine ⟨_, _, rfl, sm_tup (s1 _ _ ht) upd_same rfl (by show 2 ≤ 1000; decide) (fun i x z hx hz => ?_), fun H2 s2 => ⟨_, rfl, iteF ?_⟩⟩
    · match i, hx, hz with
      | 0, hx, hz =>
        cases hx
        cases hz
        exact sm_to (kt1 tv) (kt1 ty) le
      | 1, hx, hz =>
        cases hx
        cases hz
        exact Sm.flat rfl
    have sA := s1.trans s2
    rcases ty with ⟨ty, x, ex, rfl, hty⟩ | ⟨n1, D, ts, rfl, hD, R⟩
    · refine ⟨_, rfl, .ref ty, "list", "tuple", rfl, .base (.tup (sA _ _ hty)), by decide, by decide, _, rfl, iteF ?_⟩
      exact q H2 fun b o e _ => sA _ _ e
    · refine ⟨_, rfl, .ref D, "list", "list", rfl, .base (.lst (sA _ _ hD)), by decide, by decide, _, rfl, iteT ?_⟩
      rcases tv with ⟨_, x, ex, _⟩ | ⟨_, D2, ts2, rfl, hD2, R2⟩
      · exact absurd (by rw [ex]; rfl) n1
      · refine ⟨_, rfl, t, _, 0, _, rfl, rfl, .inl (.inl (sA _ _ ht)), atI_nat (j := 0) rfl, .inl ⟨rfl, _, .inl (.inl (sA _ _ hD2))⟩, D2, _, rfl, rfl, sA _ _ hD2, ?_⟩
        refine q _ fun b o e h => ?_
        rcases h with h | h
        · exact absurd h n1
        · rw [upd_ne (fun z => h (by rw [z]))]
          exact sA _ _ e
/-! ### the log stands -/
def sp_lls (K : PySem.W.Frag) : Sp := fun vs H Q _ => ∃ (_ : L0) (M : Addr → Prop) (st : Addr) (a : LgP) (ss us : List (List Dd × Md)), vs = [.ref a.p, .ref st] ∧ S58 K M st a H ss us ∧ ss.length ≤ 900 ∧ ∀ H', Same H H' → Q (.bl true) H'
theorem cal__law_log_stands (T : Tp K mg) : Cal P w K mg base 12 "_law_log_stands" (sp_lls K) := by
  obtain ⟨fd, F⟩ := f__law_log_stands T
  refine cal_of F (g__law_log_stands T) (b__law_log_stands F) sc__law_log_stands (fun vs H Q E h => ?_) (fun cdv A outer s H vs Q E hr h => ?_)
  · obtain ⟨_, M, st, a, ss, us, rfl, _⟩ := h
    rfl
  · obtain ⟨i0, M, st, a, ss, us, rfl, J, few, q⟩ := h
    refine ⟨_, (pss_cons (ps_set (i := 2) sc__law_log_stands.nd rfl (.inl rfl) (pe_ix ix_tup (pe_ix ix_list (pv 1) (pe_un un_neg pe_int) (fun _ _ => rfl)) pe_int (fun _ _ => rfl)))
      (pss_cons (ps_if (PW.pt (pw_or (pt_not (pt_val (C8.pe_c (cal__law_stands T) hr (by decide) rfl (pa_cons (C8.pe_mt0 (met_Log_now T) hr (by decide) (pv 0)) (pa_cons (pv 2) pa_nil))))) (pw_or1 (pt_not (pt_val (C8.pe_c (cal__law_same T) hr (by decide) rfl (pa_cons (pe_callB (call_lenO (met_Log_UlenU T) hr (by decide)) (by rfl) (z_len T) bb_len (pa_cons (pv 0) pa_nil)) (pa_cons (pe_op op_sub (pe_callB call_len_seq (by rfl) (z_len T) bb_len (pa_cons (pv 1) pa_nil)) pe_int) pa_nil)))))))) (pss_one (ps_ret pe_bl)) pss_nil)
      (pss_one (ps_ret (C8.pe_c (cal__law_same T) hr (by decide) rfl (pa_cons (C8.pe_mt0 (met_Log_deeds T) hr (by decide) (pv 0)) (pa_cons (pe_lc (own := [("_law_pair", 3)]) (g := gName 3) (tt := tYes) rfl sc__law_log_stands.nd (pi_list (pe_slice sl_list (pv 1) (po_some pe_int) po_none)) (blkOk_by (N := N__law_log_stands) (sc := defScope s__law_log_stands) (by decide +kernel)) (fun _ _ _ _ _ => (pg_name (i := 3) sc__law_log_stands.nd rfl (.inl rfl))) (fun _ _ _ _ _ => pts_nil) (fun _ _ _ _ _ => (pe_ix (ix_tupK (K := K) rfl) (pv 3) pe_int (fun _ _ => rfl)))) pa_nil))))))), ?_⟩
    obtain ⟨vs, v, e, h1, ⟨t, y, dm, rfl, ht, o, u, b, X, off, en⟩, l1⟩ := J.last
    refine ⟨_, rfl, 1, rfl, st, _, -1, _, rfl, rfl, .inl (.inl h1), atI_last _ _, t, _, 1, _, rfl, rfl, .inl (.inl ht), atI_nat (j := 1) rfl, ?_⟩
    refine ⟨_, rfl, a.p, a.dx, _, rfl, J.lg.obj, lf_no (by decide +kernel), a, lgOf ss us, topM ss, rfl, J.lg, webs_lastL ss us, fun q0 W0 => ⟨_, rfl, q0, dm, topM ss, rfl, W0, X.at, fun H1 s1 => ⟨_, rfl, iteF ?_⟩⟩⟩
    have J1 := J.same s1
    have ld : (lgOf ss us).done.length = ss.length := by
      show (ss.map (·.1)).length = _
      rw [List.length_map]
    refine ⟨_, rfl, a.p, a.dx, _, rfl, J1.lg.obj, a, lgOf ss us, rfl, J1.lg, _, rfl, by omega, by omega, _, rfl, st, _, rfl, .inl (.inl (.inl (s1 _ _ h1))), _, _, rfl, rfl, _, _, rfl, sm_eq ?_ rfl, fun H2 s2 => ⟨_, rfl, iteF ?_⟩⟩
    · rw [ld, l1]
      exact congrArg V.int (by omega)
    have J2 := J1.same s2
    have ne : ∀ xs ∈ (lgOf ss us).done, xs ≠ [] := fun xs hx => by
      obtain ⟨r, hr, rfl⟩ := List.mem_map.1 hx
      exact (J.gs r hr).ne
    refine ⟨_, rfl, a.p, a.dx, _, rfl, J2.lg.obj, lf_no (by decide +kernel), a, lgOf ss us, rfl, J2.lg, by omega, ne, fun D acc H3 s3 nD hD PD => ?_⟩
    have J3 := J2.same s3
    obtain ⟨vs3, h3, P3⟩ := J3.hst
    have l3 := P3.length
    rw [rows_len] at l3
    cases P3 with
    | cons hv0 P4 =>
    rename_i v0 vs4
    refine ⟨_, rfl, 1, rfl, st, _, rfl, .inl (.inl h3), fun r nr => ?_⟩
    rw [cut_suf1]
    have s4 := same_upd (o := .lst vs4) nr
    have hr4 : (upd H3 r (.lst vs4)) r = some (.lst vs4) := upd_same
    have J4 := J3.same s4
    have hD4 := s4 _ _ hD
    generalize upd H3 r (.lst vs4) = H4 at s4 hr4 J4 hD4 ⊢
    refine ⟨r, rfl, ⟨_, .inl (.inl hr4)⟩, fun D2 nD2 => ?_⟩
    have P4 : Paired (StAt M H4) vs4 (ss.map fun r => ((some r.1, r.2) : Rw8)) := Paired.mono (fun _ _ h => h.same s4) P4
    have l4 : vs4.length = (ss.map fun r => ((some r.1, r.2) : Rw8)).length := P4.length
    have lss : (ss.map fun r => ((some r.1, r.2) : Rw8)).length = ss.length := List.length_map _
    refine lc_pure (ss.map fun r => ((some r.1, r.2) : Rw8)) (walk_listN l4) (fun x => some x) (fun _ v r => EnAt M H4 v r.1) (fun _ h => h) nD2 (by omega) (fun H s => .inl (.inl (s _ _ hr4))) ?_ ?_
    · rintro j x v H5 _ ex s5 ⟨rfl, hv⟩ Good Bad kt kf
      obtain ⟨r0, e0, t, y, dm, rfl, ht, o, u, b, X, off, en⟩ := paired_at P4 hv
      rw [ex] at e0
      cases e0
      exact ⟨rfl, yes_i (iteT ⟨_, rfl, t, _, 0, _, rfl, rfl, .inl (.inl (s5 _ _ ht)), atI_nat (j := 0) rfl, kt _ _ _ rfl (Same.refl _) en⟩)⟩
    · intro H5 acc2 s5 d5 p5
      have e5 : (ss.map fun r => ((some r.1, r.2) : Rw8)).filterMap (fun x => some x) = ss.map fun r => (some r.1, r.2) := List.filterMap_some
      rw [e5] at p5
      have la : acc.length = ss.length := by rw [PD.length]; exact ld
      have la2 : acc2.length = ss.length := by rw [p5.length, lss]
      refine ⟨_, _, rfl, sm_lst (s5 _ _ hD4) d5 (by rw [la, la2]) (by omega) (fun i x y hx hy => ?_), fun H6 s6 => q H6 ((((s1.trans s2).trans s3).trans s4).trans (s5.trans s6))⟩
      obtain ⟨xs, ex, tl, _⟩ := paired_at PD hx
      obtain ⟨r0, er, en⟩ := paired_at p5 hy
      have ex : (ss.map (·.1))[i]? = some xs := ex
      rw [List.getElem?_map] at ex er
      cases e9 : ss[i]? with
      | none =>
        rw [e9] at er
        cases er
      | some r9 =>
        rw [e9] at ex er
        cases ex
        cases er
        exact sm_to (to_same tl (s4.trans s5)) (to_same en.1 s5) (J.gs r9 (List.mem_of_getElem? e9)).le
end
end Tw

set_option maxHeartbeats 4000000
namespace Tw
open PySem PySem.Spec PyProof.Rows L2
/-- the refusals that _law_why meets: the class, its word, its field -/
inductive Why (K : PySem.W.Frag) : Addr → Str → List V → List (Str × V) → Prop
  | cBadBy (v0 : V) : Why K (He.ga K "BadBy") "BadBy" [v0] [(("by" : Str), v0), (("word" : Str), V.str "BadBy")]
  | cBadName (v0 : V) : Why K (He.ga K "BadName") "BadName" [v0] [(("name" : Str), v0), (("word" : Str), V.str "BadName")]
  | cTaken (v0 : V) : Why K (He.ga K "Taken") "Taken" [v0] [(("name" : Str), v0), (("word" : Str), V.str "Taken")]
  | cFull (v0 : V) : Why K (He.ga K "Full") "Full" [v0] [(("most" : Str), v0), (("word" : Str), V.str "Full")]
  | cBadLength (v0 v1 : V) : Why K (He.ga K "BadLength") "BadLength" [v0, v1] [(("high" : Str), v1), (("low" : Str), v0), (("word" : Str), V.str "BadLength")]
  | cBadLate (v0 : V) : Why K (He.ga K "BadLate") "BadLate" [v0] [(("late" : Str), v0), (("word" : Str), V.str "BadLate")]
  | cBadTie (v0 v1 : V) : Why K (He.ga K "BadTie") "BadTie" [v0, v1] [(("most" : Str), v1), (("least" : Str), v0), (("word" : Str), V.str "BadTie")]
  | cUsed (v0 : V) : Why K (He.ga K "Used") "Used" [v0] [(("name" : Str), v0), (("word" : Str), V.str "Used")]
  | cNoMoment (v0 : V) : Why K (He.ga K "NoMoment") "NoMoment" [v0] [(("name" : Str), v0), (("word" : Str), V.str "NoMoment")]
  | cNoPoint (v0 : V) : Why K (He.ga K "NoPoint") "NoPoint" [v0] [(("name" : Str), v0), (("word" : Str), V.str "NoPoint")]
  | cNoTie (v0 : V) : Why K (He.ga K "NoTie") "NoTie" [v0] [(("at" : Str), v0), (("word" : Str), V.str "NoTie")]
  | cNothingBack : Why K (He.ga K "NothingBack") "NothingBack" [] [(("word" : Str), V.str "NothingBack")]
def WhyE (K : PySem.W.Frag) (Q : VK) : XK := fun cls d H => ∃ (C dd : Addr) (u : Str) (ws : List V) (fs : List (Str × V)), Why K C u ws fs ∧ cls = .ref C ∧ d = some dd ∧ H dd = some (.xd fs) ∧ ∀ t, H t = none → Q (.ref t) (upd H t (.tup [.non, .str u]))
def TTwhy (K : PySem.W.Frag) : (XK → Hp → VK → Prop) → Hp → VK → Prop := fun tl H Q => tl (WhyE K Q) H fun v H' => ∃ v1, (some (some (v)) : Option (Option V)) = some (some v1) ∧ ∃ v2, (some (some (.str "")) : Option (Option V)) = some (some v2) ∧ [v1, v2].length ≤ sizeLine ∧ ∀ t, H' t = none → Q (.ref t) (upd H' t (.tup [v1, v2]))
section
variable {X : Cx}
theorem why_gives (T : Tp X.K X.mg) {g : Addr} {cdg : Value} {q : Str} : GivesS X N__law_why "_law_why" (defScope s__law_why) g cdg (defBody s__law_why) "_law_ask" q (TTwhy X.K) := by
  intro f c' s H Q tl act hc h
  refine ⟨_, (pss_cons (ps_set (i := 1) sc__law_why.nd rfl (.inl rfl) pe_non) (pss_cons (ps_set (i := 2) sc__law_why.nd rfl (.inl rfl) pe_str) (pss_cons (ps_tryM (X := (cxOf C8.CX0 X.prog X.w X.K X.mg X.base N__law_why "_law_why" (defScope s__law_why) g cdg X.A X.stack s H C8.E0).nox) (i := 3)
    (tb := fun W D σ H => ∃ Ech : XK, (∀ cls d H', Ech cls d H' → W cls d σ H') ∧ σ[0]? = some (some (.ref f)) ∧ H c' = some (LamX.CodeO c' q) ∧ tl Ech H (fun v H' => D.nx (σ.set 1 (some v)) H')) rfl rfl sc__law_why.nd rfl rfl LamX.takes0 (fun W pn xe tk _ => ?_)
    (.cons (.one ⟨rfl, by decide, .inl (g_TideError T)⟩) (fun a oe cls d pn hz hf => pss_one (ps_set (i := 2) sc__law_why.nd rfl (.inl rfl) (pe_xw hz hf (pv 3))))
      (.cons (.one ⟨rfl, by decide, .inl (g_Missing T)⟩) (fun a oe cls d pn hz hf => pss_one (ps_set (i := 2) sc__law_why.nd rfl (.inl rfl) (pe_xw hz hf (pv 3))))
      (.cons (.one ⟨rfl, by decide, .inl (g_RunFault T)⟩) (ts := fun _ _ _ => tNever) (fun a oe cls d pn hz hf => pss_never)
      (.cons (.one ⟨rfl, by decide, .inl (g_NothingBack T)⟩) (fun a oe cls d pn hz hf => pss_one (ps_set (i := 2) sc__law_why.nd rfl (.inl rfl) (pe_xw hz hf (pv 3))))
      .nil))))) (pss_one (ps_ret (pe_tup (pa_cons (pv 1) (pa_cons (pv 2) pa_nil)))))))), ?_⟩
  · refine ⟨fun pins s' σ H' D I h' => ?_⟩
    obtain ⟨Ech, hW, h1, h2, h3⟩ := h'
    exact (pss_one (ps_set (i := 1) sc__law_why.nd rfl (.inl rfl) (act W pn xe Ech _ _ tk))).run pins s' σ H' D I ⟨h1, h2, hW, h3⟩
  · skip
    refine ⟨WhyE X.K Q, fun cls d H' ⟨C, dd, u, ws, fs, hF, ec, ed, hd, hq⟩ _ => ?_, rfl, hc, ?_⟩
    · subst ec ed
      cases hF with
      | cBadBy v0 => exact ⟨_, et_BadBy__law_why_0 T, fun _ a na => ⟨_, rfl, rfl, _, dd, _, _, rfl, xf_BadBy T, nf_BadBy_word T, rfl, hd, rfl, ⟨_, rfl, _, rfl, (by show 2 ≤ sizeLine; decide), fun t nt => hq t nt⟩⟩, (fun z => nomatch z)⟩
      | cBadName v0 => exact ⟨_, et_BadName__law_why_0 T, fun _ a na => ⟨_, rfl, rfl, _, dd, _, _, rfl, xf_BadName T, nf_BadName_word T, rfl, hd, rfl, ⟨_, rfl, _, rfl, (by show 2 ≤ sizeLine; decide), fun t nt => hq t nt⟩⟩, (fun z => nomatch z)⟩
      | cTaken v0 => exact ⟨_, et_Taken__law_why_0 T, fun _ a na => ⟨_, rfl, rfl, _, dd, _, _, rfl, xf_Taken T, nf_Taken_word T, rfl, hd, rfl, ⟨_, rfl, _, rfl, (by show 2 ≤ sizeLine; decide), fun t nt => hq t nt⟩⟩, (fun z => nomatch z)⟩
      | cFull v0 => exact ⟨_, et_Full__law_why_0 T, fun _ a na => ⟨_, rfl, rfl, _, dd, _, _, rfl, xf_Full T, nf_Full_word T, rfl, hd, rfl, ⟨_, rfl, _, rfl, (by show 2 ≤ sizeLine; decide), fun t nt => hq t nt⟩⟩, (fun z => nomatch z)⟩
      | cBadLength v0 v1 => exact ⟨_, et_BadLength__law_why_0 T, fun _ a na => ⟨_, rfl, rfl, _, dd, _, _, rfl, xf_BadLength T, nf_BadLength_word T, rfl, hd, rfl, ⟨_, rfl, _, rfl, (by show 2 ≤ sizeLine; decide), fun t nt => hq t nt⟩⟩, (fun z => nomatch z)⟩
      | cBadLate v0 => exact ⟨_, et_BadLate__law_why_0 T, fun _ a na => ⟨_, rfl, rfl, _, dd, _, _, rfl, xf_BadLate T, nf_BadLate_word T, rfl, hd, rfl, ⟨_, rfl, _, rfl, (by show 2 ≤ sizeLine; decide), fun t nt => hq t nt⟩⟩, (fun z => nomatch z)⟩
      | cBadTie v0 v1 => exact ⟨_, et_BadTie__law_why_0 T, fun _ a na => ⟨_, rfl, rfl, _, dd, _, _, rfl, xf_BadTie T, nf_BadTie_word T, rfl, hd, rfl, ⟨_, rfl, _, rfl, (by show 2 ≤ sizeLine; decide), fun t nt => hq t nt⟩⟩, (fun z => nomatch z)⟩
      | cUsed v0 => exact ⟨_, et_Used__law_why_0 T, fun _ a na => ⟨_, rfl, rfl, _, dd, _, _, rfl, xf_Used T, nf_Used_word T, rfl, hd, rfl, ⟨_, rfl, _, rfl, (by show 2 ≤ sizeLine; decide), fun t nt => hq t nt⟩⟩, (fun z => nomatch z)⟩
      | cNoMoment v0 => exact ⟨_, et_NoMoment__law_why_0 T, (fun z => nomatch z), fun _ => ⟨_, et_NoMoment__law_why_1 T, fun _ a na => ⟨_, rfl, rfl, _, dd, _, _, rfl, xf_NoMoment T, nf_NoMoment_word T, rfl, hd, rfl, ⟨_, rfl, _, rfl, (by show 2 ≤ sizeLine; decide), fun t nt => hq t nt⟩⟩, (fun z => nomatch z)⟩⟩
      | cNoPoint v0 => exact ⟨_, et_NoPoint__law_why_0 T, (fun z => nomatch z), fun _ => ⟨_, et_NoPoint__law_why_1 T, fun _ a na => ⟨_, rfl, rfl, _, dd, _, _, rfl, xf_NoPoint T, nf_NoPoint_word T, rfl, hd, rfl, ⟨_, rfl, _, rfl, (by show 2 ≤ sizeLine; decide), fun t nt => hq t nt⟩⟩, (fun z => nomatch z)⟩⟩
      | cNoTie v0 => exact ⟨_, et_NoTie__law_why_0 T, (fun z => nomatch z), fun _ => ⟨_, et_NoTie__law_why_1 T, fun _ a na => ⟨_, rfl, rfl, _, dd, _, _, rfl, xf_NoTie T, nf_NoTie_word T, rfl, hd, rfl, ⟨_, rfl, _, rfl, (by show 2 ≤ sizeLine; decide), fun t nt => hq t nt⟩⟩, (fun z => nomatch z)⟩⟩
      | cNothingBack => exact ⟨_, et_NothingBack__law_why_0 T, (fun z => nomatch z), fun _ => ⟨_, et_NothingBack__law_why_1 T, (fun z => nomatch z), fun _ => ⟨_, et_NothingBack__law_why_2 T, (fun z => nomatch z), fun _ => ⟨_, et_NothingBack__law_why_3 T, fun _ a na => ⟨_, rfl, rfl, _, dd, _, _, rfl, xf_NothingBack T, nf_NothingBack_word T, rfl, hd, rfl, ⟨_, rfl, _, rfl, (by show 2 ≤ sizeLine; decide), fun t nt => hq t nt⟩⟩, (fun z => nomatch z)⟩⟩⟩⟩
    · exact h
/-- _law_why(lambda: body) -/
theorem pe_why (T : Tp X.K X.mg) {c Pt : Addr} {k : Nat} {params : Arguments} {body : Expr} {scope : Scope} {t : XK → TE} {p lpos pos : Pos} {Ts : List (Addr × Str)} (TB : LamX.TabB X.base X.mg c Pt) (hmT : (Pt, X.env.qual ++ "<lambda>") ∈ Ts) (hu : ∀ p ∈ Ts, p.1 = Pt → p.2 = X.env.qual ++ "<lambda>") (hcode : X.env.code = .ref c) (hr : Room (k + 2) X.A) (L : LamX.LamS X.env.scope scope)
    (hbody : ∀ (A : Around) (outer : List Env) (s : Shared) (H : Hp) (E : XK) (f c' : Addr), Room k (A.deeper (LamX.lamEnv X scope s.heap.objs.size f c')) → Takes (LamX.lamCx X A outer s H E scope f c') (fun cls d _ H' => E cls d H') → PE (LamX.lamCx X A outer s H E scope f c') body (t E))
    (hg : Gl X "_law_why" := by rfl) (hdef : defaultsOf params X.env = ([], []) := by rfl) (hbind : ∀ (q : Str) (cl : List (Str × Addr)) (pm cv ctv : Value), bindArgs (PySem.W.kla_fn "<lambda>" q params body scope cl pm cv ctv) ⟨[], []⟩ = pure [] := by intros; rfl) :
    PE X (.Call (.Name "_law_why" p) [.Lambda params body scope lpos] [] pos) (LamX.tLam Ts (TTwhy X.K) t) := by
  obtain ⟨fd, F⟩ := f__law_why T
  have b := b__law_why F
  have kp := F.kp
  obtain ⟨oc, od, dV, kV, doc, pm, an, cdv, ct, osl, rfl, lk, hcd, _, _⟩ := F.ex
  exact pe_lamS hg (g__law_why T) kp lk hcd b sc__law_why rfl (.inl rfl) (why_gives T) TB hcode hmT hu hr L hdef hbind (fun A outer s H E f c' hr' => hbody A outer s H E f c' hr' (takes_of rfl rfl rfl rfl))
/-- _law_why(v), v a name that keeps a lambda -/
theorem pe_whyv (T : Tp X.K X.mg) {f c' : Addr} {i k : Nat} {v : Str} {params : Arguments} {body : Expr} {scope : Scope} {t : XK → TE} {p p2 pos : Pos} (kp : KeptL X params body scope f c') (hN : X.N[i]? = some v) (hv : Vis X.env.scope v) (hr : Room (k + 2) X.A) (L : LamX.LamS X.env.scope scope)
    (hbody : ∀ (A : Around) (outer : List Env) (s : Shared) (H : Hp) (E : XK), Room k (A.deeper (LamX.lamEnv X scope s.heap.objs.size f c')) → Takes (LamX.lamCx X A outer s H E scope f c') (fun cls d _ H' => E cls d H') → PE (LamX.lamCx X A outer s H E scope f c') body (t E))
    (hg : Gl X "_law_why" := by rfl) (hbind : ∀ (q : Str) (cl : List (Str × Addr)) (pm cv ctv : Value), bindArgs (PySem.W.kla_fn "<lambda>" q params body scope cl pm cv ctv) ⟨[], []⟩ = pure [] := by intros; rfl)
    (hd2 : (v == ("__debug__" : Str)) = false := by decide) (hcd2 : (v == ("__classdict__" : Str)) = false := by decide) :
    PE X (.Call (.Name "_law_why" p) [.Name v p2] [] pos) (tHand (X.env.qual ++ "<lambda>") f c' i (TTwhy X.K) t) := by
  obtain ⟨fd, F⟩ := f__law_why T
  have b := b__law_why F
  have kk := F.kp
  obtain ⟨oc, od, dV, kV, doc, pm, an, cdv, ct, osl, rfl, lk, hcd, _, _⟩ := F.ex
  exact pe_handS hg (g__law_why T) kk lk hcd b sc__law_why rfl (.inl rfl) (why_gives T) kp hN hv hr L hbind (fun A outer s H E hr' => hbody A outer s H E hr' (takes_of rfl rfl rfl rfl)) (hd2 := hd2) (hcd2 := hcd2)
end
end Tw

set_option maxHeartbeats 4000000
namespace Tw
open PySem PySem.Spec PyProof.Rows L2
/-! a log's web of an earlier time -/
section
variable {P : Program} {w : World} {K : PySem.W.Frag} {mg : Str → Option Value} {base : Heap}
/-- the web behind so many deeds, or what is refused -/
def sp_las (K : PySem.W.Frag) : Sp := fun vs H Q E => ∃ (a : LgP) (L : Lg) (v : V), vs = [.ref a.p, v] ∧ LgAt K H a L ∧ (plK v).isSome = true ∧ L.done.length ≤ 900 ∧ (whB 0 (L.done.length : Nat) v = false → Out H E (He.ga K "NoDeed") "NoDeed" "at" v) ∧
  ∀ (i : Nat) (m : Md), v = .int (i : Nat) → L.webs[i]? = some m → ∀ q, WebAt (CW K) H q m → Q (.ref q) H
theorem metx_Log_as_of (T : Tp K mg) : MetX P w K mg base 6 (CL K) "as_of" (sp_las K) := by
  obtain ⟨fd, F⟩ := f_Log_as_of T
  refine metx_of F (cl_Log T) (me_Log_as_of T) (b_Log_as_of F) sc_Log_as_of (fun vs H Q E h => ?_) (fun cdv A outer s H vs Q E hr h tk => ?_)
  · obtain ⟨a, L, v, rfl, _⟩ := h
    rfl
  · obtain ⟨a, L, v, rfl, A1, pk, few, o, q⟩ := h
    obtain ⟨ws, w1, w2⟩ := A1.webs
    obtain ⟨ds, d1, d2⟩ := A1.done
    have ld : ds.length = L.done.length := Paired.length d2
    refine ⟨_, (pss_cons (ps_if (pt_not (pt_val (C8.pe_c (cal_iswh T) hr (by decide) rfl (pa_cons (pv 1) (pa_cons pe_int (pa_cons (pe_callB call_len_seq (by rfl) (z_len T) bb_len (pa_cons (pe_fld (pv 0) rfl) pa_nil)) pa_nil)))))) (pss_one (ps_raise rfl tk (pmk_b (mkx_NoDeed T) hr (by decide) rfl (pa_cons (pv 1) pa_nil)))) pss_nil)
      (pss_one (ps_ret (pe_ix ix_list (pe_fld (pv 0) rfl) (pv 1) (fun _ _ => rfl))))), ?_⟩
    refine ⟨_, rfl, _, rfl, a.p, CL K, a.dx, _, _, rfl, A1.obj, cl_Log T, na_Log_done T, lf_d, a.d, _, rfl, .inl (.inl (.inl d1)), v, 0, _, rfl, pk, _, rfl, ?_⟩
    rw [ld]
    cases hw : whB 0 (L.done.length : Nat) v with
    | false => exact iteT ⟨_, rfl, mk_out (o hw)⟩
    | true =>
      obtain ⟨i, rfl, i0, i1⟩ := wh_int hw
      have il : i.toNat < L.webs.length := by
        have := A1.len
        omega
      have ei : i = ((i.toNat : Nat) : Int) := by omega
      have lw : ws.length = L.webs.length := Paired.length w2
      have ev : ws[i.toNat]? = some ws[i.toNat] := List.getElem?_eq_getElem (by omega)
      obtain ⟨m, em, q0, e0, W⟩ := paired_at w2 ev
      refine iteF ⟨_, rfl, a.p, CL K, a.dx, _, _, rfl, A1.obj, cl_Log T, na_Log_webs T, lf_w, _, rfl, a.w, ws, i, .ref q0, rfl, rfl, .inl (.inl w1), ?_, q i.toNat m (by rw [← ei]) em q0 W⟩
      rw [ei]
      exact atI_nat (by rw [ev, e0])
end
end Tw

set_option maxHeartbeats 4000000
namespace Tw
open PySem PySem.Spec PyProof.Rows L2
/-! the tables of code of two defs -/
abbrev q8 : Str := ("_law_log_turn" : Str) ++ ".<locals>." ++ "<lambda>"
abbrev tb8 (K : PySem.W.Frag) : List (Addr × Str) := [((He.cT K ("_law_log_turn", none)).2, q8), ((He.cT K ("law", none)).2, qlam)]
theorem tb8_turn {K : PySem.W.Frag} (n : ¬ (He.cT K ("law", none)).2 = (He.cT K ("_law_log_turn", none)).2) : ∀ z ∈ tb8 K, z.1 = (He.cT K ("_law_log_turn", none)).2 → z.2 = q8 := fun z hz e => by
  rcases List.mem_cons.1 hz with h | h
  · rw [h]
  · rw [List.mem_singleton.1 h] at e
    exact absurd e n
theorem tb8_law {K : PySem.W.Frag} (n : ¬ (He.cT K ("law", none)).2 = (He.cT K ("_law_log_turn", none)).2) : ∀ z ∈ tb8 K, z.1 = (He.cT K ("law", none)).2 → z.2 = qlam := fun z hz e => by
  rcases List.mem_cons.1 hz with h | h
  · subst h
    exact absurd e.symm n
  · rw [List.mem_singleton.1 h]
end Tw

set_option maxHeartbeats 4000000
namespace Tw
open PySem PySem.Spec PyProof.Rows L2
open LamX (ExtN Tabs)
/-! k58: a turn -/
section
variable {X : Cx} {k j : Nat} {C : Addr} {m : Str} {sp : Sp} {pos apos : Pos} {o : Expr} {ta : TE} {W : WX} {E : XK}
/-- the text o.m() goes these steps -/
structure Me0Form (X : Cx) (pl : Sem Bool) (o : Expr) (m : Str) (apos pos : Pos) : Prop where
  steps : eval (.Call (.Attribute o m apos) [] [] pos) X.env = (eval o X.env >>= fun ov => standAt apos.atName >>= fun _ => holding [ov] (getMethod ov m pl) >>= fun g => callWith pos g.1 g.2 (backTo pos (starEach [] X.env)) (backToKw pos (keywordEach [] X.env)))
theorem pe_mx0 {pl : Sem Bool} (c : MetX X.prog X.w X.K X.mg X.base k C m sp) (tk : Takes X W) (hW : ∀ cls d σ H, E cls d H → W cls d σ H) (hr : Room j X.A) (hk : k ≤ j) (he : PE X o ta) (form : Me0Form X pl o m apos pos := by exact ⟨rfl⟩) :
    PE X (.Call (.Attribute o m apos) [] [] pos) (tMeth C m sp [] E ta tNil) :=
  let ⟨_, _, _, cls, me, F, b⟩ := c.ex
  pe_meth0 (pl := pl) he cls me F (hr.mono hk) b .nil (passes_call tk hW) form.steps
end
theorem call_isKq {X : Cx} {K : PySem.W.Frag} (h : X.K = K) : CallR X (.builtin "isinstance") (rIsK K) := h ▸ call_isK
section
variable {P : Program} {w : World} {K : PySem.W.Frag} {mg : Str → Option Value} {base : Heap}
theorem dealt_ne : ∀ {xs : List Dd} {m : Md} {r : Rf}, dealt m xs = .error r → ¬ r.1 = ""
  | [], m, r, h => nomatch h
  | x :: xs, m, r, h => by
    cases hn : x.no m with
    | some r' =>
      rw [dealt_some hn] at h
      cases h
      exact no_ne hn
    | none =>
      rw [dealt_none hn] at h
      exact dealt_ne h
theorem fnok_t8 {x : Str} {params : Arguments} {body : List Stmt} {scope : Scope} {fd : FuncData} {N ps : List Str} {k : Nat} {sp : Sp} (F : FunD K x x params body scope [] [] (He.ga K x) fd) (S : FnScope N ps scope) (len : ∀ vs H Q E, sp vs H Q E → vs.length = ps.length)
    (owed : ∀ (A : Around) (outer : List Env) (s : Shared) (H : Hp) (vs : List V) (Q : VK) (E : XK), Room k (A.deeper (envOfC x scope s.heap.objs.size (He.ga K x) (.ref (He.cT K (x, none)).1))) → sp vs H Q E →
      ∃ t, PSs (cxOf CX0 P w K mg base N x scope (He.ga K x) (.ref (He.cT K (x, none)).1) A outer s H E).nox body t ∧ t { nx := fun _ H' => Q .non H', rt := Q } (start N vs) H) : FnOk P w K mg base CX0 (k + 1) (He.ga K x) fd ps sp := by
  obtain ⟨_, _, _, _, _, _, _, cdv, _, _, rfl, lk, known, _, _⟩ := F.ex
  obtain ⟨cc, rfl⟩ := He.codeIn_ref known
  obtain rfl : He.codeOf K (x, none) = cc := He.codeOf_eq lk rfl
  exact fn_of lk known S len fun A outer s H vs Q E room h => (owed A outer s H vs Q E room h).imp fun _ z => ⟨z.1.nox, z.2⟩
theorem KmL.trans {M : Addr → Prop} {H H1 H2 : Hp} (k : KmL M H H1) (l : KmL M H1 H2) : KmL M H H2 := fun y o e t n => l _ _ (k _ _ e t n) t n
theorem KmL.same {M : Addr → Prop} {H H1 : Hp} (s : Same H H1) : KmL M H H1 := fun y o e _ _ => s _ _ e
theorem KmL.ext {M : Addr → Prop} {H H1 : Hp} (s : ExtN H H1) : KmL M H H1 := fun y o e t _ => s _ _ e t
theorem KmL.sbf {f st wt : Addr} {a : LgP} {H H1 : Hp} (s : Sb f H H1) : KmL (Mw f st wt a) H H1 := fun y o e _ n => s _ _ e fun z => n (.inl z)
theorem KmL.back {M : Addr → Prop} {H H1 : Hp} {y : Addr} (k : KmL M H H1) (n : NoT H1 y) : M y ∨ NoT H y := by
  by_cases h : M y
  · exact .inl h
  · refine .inr fun o e => Classical.byContradiction fun z => z ?_
    exact n _ (k _ _ e (fun ps h => z ⟨ps, h⟩) h)
def sp_l8 (K : PySem.W.Frag) : Sp := fun vs H Q _ => ∃ (_ : L0) (O : Addr → Prop) (f c st wt : Addr) (a : LgP) (ss us : List (List Dd × Md)), vs = [.ref f, .ref a.p, .ref st, .ref wt] ∧ J58 (tb8 K) K O f c st wt a H ss us ∧ ss.length + us.length ≤ 100 ∧
  ∀ (a' : LgP) (H' : Hp) (ss' us' : List (List Dd × Md)), a'.p = a.p → J58 (tb8 K) K O f c st wt a' H' ss' us' → ss'.length + us'.length ≤ ss.length + us.length + 1 → (Chn8 md0 (ss ++ us.reverse) → Chn8 md0 (ss' ++ us'.reverse)) → KmL (Mw f st wt a) H H' → (∀ y, Mw f st wt a' y → Mw f st wt a y ∨ NoT H y) → Q (.bl true) H'
/-- its data -/
theorem Dd.Ns.okV {x : Dd} (h : x.Ns) : x.row.all okV = true := by
  have wo : ∀ x : Dd, Tw.okV (.str x.word) = true := fun x => match x with
    | .las _ => show Tw.okV (.str "by") = true by decide +kernel
    | .mom _ => show Tw.okV (.str "moment") = true by decide +kernel
    | .span _ => show Tw.okV (.str "span") = true by decide +kernel
    | .tie _ => show Tw.okV (.str "tie") = true by decide +kernel
    | .unt _ => show Tw.okV (.str "untie") = true by decide +kernel
    | .wo _ => show Tw.okV (.str "without") = true by decide +kernel
  show (Tw.okV (.str x.word) && x.rest.all Tw.okV) = true
  rw [wo x, Bool.true_and]
  cases x with
  | las l => rfl
  | mom z => exact (Bool.and_true _).trans (nm_ok h)
  | span y =>
    show (Tw.okV (.str y.en) && (Tw.okV (.str y.bg) && (true && (true && (Tw.okV (oV y.la) && true))))) = true
    rw [show Tw.okV (.str y.en) = true from nm_ok h.1, show Tw.okV (.str y.bg) = true from nm_ok h.2]
    cases y.la <;> rfl
  | tie y =>
    show (Tw.okV (.str y.one) && (Tw.okV (.str y.oth) && (Tw.okV (oV y.bot) && (Tw.okV (oV y.top) && true)))) = true
    rw [show Tw.okV (.str y.one) = true from nm_ok h.1, show Tw.okV (.str y.oth) = true from nm_ok h.2]
    cases y.bot <;> cases y.top <;> rfl
  | unt i => rfl
  | wo z => exact (Bool.and_true _).trans (nm_ok h)
def pdOf : List Dd → PyData
  | [x] => pdR x.row
  | xs => .list ((xs.map Dd.row).map pdR)
theorem pdOf_ne {xs : List Dd} (h : xs.length ≠ 1) : pdOf xs = .list ((xs.map Dd.row).map pdR) := by
  match xs, h with
  | [], _ => rfl
  | [x], h => exact absurd rfl h
  | _ :: _ :: _, _ => rfl
theorem pdOf_ok {xs : List Dd} (h : ∀ x ∈ xs, x.Ns) : SeqAt.shaped (pdOf xs) = true ∧ PyData.eqv (pdOf xs) (pdOf xs) = true := by
  have rs : ∀ r ∈ xs.map Dd.row, r.all okV = true := fun r hr => by
    obtain ⟨x, hx, rfl⟩ := List.mem_map.1 hr
    exact (h x hx).okV
  by_cases l : xs.length = 1
  · obtain ⟨x, rfl⟩ := List.length_eq_one_iff.1 l
    have o := rs _ (List.mem_singleton.2 rfl)
    refine ⟨?_, SeqAt.eqv_refl _ (can_all o)⟩
    show (PyData.canLay0 (pdR x.row) && _) = true
    rw [show PyData.canLay0 (pdR x.row) = true from can_all o, Bool.true_and]
    exact decide_eq_true (by show PyData.depth (pdR x.row) ≤ 64; rw [show PyData.depth (pdR x.row) = PyData.depthAll (x.row.map pd) + 1 from rfl, depth_all]; decide)
  · rw [pdOf_ne l]
    exact ⟨shaped_rows rs, SeqAt.eqv_refl _ (can_rows rs)⟩
theorem to_dp {K : PySem.W.Frag} {H : Hp} {v : V} {xs : List Dd} (h : ToAt H v xs) (n : ∀ x ∈ xs, x.Ns) : Dp K H v (pdOf xs) := by
  rcases h with ⟨t, x, rfl, rfl, ht⟩ | ⟨l, D, ts, rfl, hD, R⟩
  · exact .tup (.inl (.inl ht)) (dp_all (n x (List.mem_singleton.2 rfl)).okV)
  · rw [pdOf_ne l]
    exact .lst (.inl (.inl hD)) (dp_rows R fun r hr => by
      obtain ⟨x, hx, rfl⟩ := List.mem_map.1 hr
      exact (n x hx).okV)
theorem doo_of [L0] (ss us : List (List Dd × Md)) (m' : Md) (xs : List Dd) : (lgOf ss us).doo m' xs = lgOf (ss ++ [(xs, m')]) [] := by
  unfold lgOf Lg.doo
  rw [rows_snoc, List.map_append, List.map_append]
  rfl
/-- the last of what was done -/
theorem snoc_of [L0] {ss us : List (List Dd × Md)} {ds : List (List Dd)} {xs : List Dd} {ms : List Md} {m : Md} (e1 : (lgOf ss us).done = ds ++ [xs]) (e2 : (lgOf ss us).webs = ms ++ [m]) : ∃ s0, ss = s0 ++ [(xs, m)] ∧ ds = s0.map (·.1) ∧ ms = (rowsOf s0).map (·.2) := by
  rcases List.eq_nil_or_concat ss with h | ⟨s0, r, h⟩
  · subst h
    cases ds <;> cases e1
  · rw [List.concat_eq_append] at h
    subst h
    have e1 : (s0 ++ [r]).map (·.1) = ds ++ [xs] := e1
    have e2 : (rowsOf (s0 ++ [r])).map (·.2) = ms ++ [m] := e2
    rw [List.map_append] at e1
    rw [rows_snoc, List.map_append] at e2
    obtain ⟨a1, a2⟩ := List.append_inj' e1 rfl
    obtain ⟨b1, b2⟩ := List.append_inj' e2 rfl
    have a2 : r.1 = xs := (List.cons.inj a2).1
    have b2 : r.2 = m := (List.cons.inj b2).1
    exact ⟨s0, by rw [← a2, ← b2], a1.symm, b1.symm⟩
theorem no_why {m : Md} {x : Dd} {r : Rf} (h : x.no m = some r) : ∃ ws, Why K (He.ga K r.1) r.1 ws r.2 := by
  cases x with
  | las l =>
    simp only [Dd.no] at h
    split at h
    · cases h
    · cases h
      exact ⟨_, .cBadBy _⟩
  | mom z =>
    simp only [Dd.no] at h
    split at h
    · cases h
      exact ⟨_, .cBadName _⟩
    split at h
    · cases h
      exact ⟨_, .cTaken _⟩
    split at h
    · cases h
    · cases h
      exact ⟨_, .cFull _⟩
  | span y =>
    simp only [Dd.no] at h
    split at h
    · cases h
      exact ⟨_, .cBadName _⟩
    split at h
    · cases h
      exact ⟨_, .cTaken _⟩
    split at h
    · cases h
      exact ⟨_, .cNoMoment _⟩
    split at h
    · cases h
      exact ⟨_, .cBadLength _ _⟩
    split at h
    · cases h
      exact ⟨_, .cBadLate _⟩
    split at h
    · cases h
    · cases h
      exact ⟨_, .cFull _⟩
  | tie y =>
    simp only [Dd.no] at h
    split at h
    · cases h
      exact ⟨_, .cNoPoint _⟩
    split at h
    · cases h
      exact ⟨_, .cNoPoint _⟩
    split at h
    · cases h
      exact ⟨_, .cBadTie _ _⟩
    split at h
    · cases h
    · cases h
      exact ⟨_, .cFull _⟩
  | unt i =>
    simp only [Dd.no] at h
    split at h
    · cases h
    · cases h
      exact ⟨_, .cNoTie _⟩
  | wo z =>
    simp only [Dd.no] at h
    split at h
    · cases h
      exact ⟨_, .cNoPoint _⟩
    split at h
    · cases h
      exact ⟨_, .cUsed _⟩
    · cases h
theorem dealt_why : ∀ {xs : List Dd} {m : Md} {r : Rf}, dealt m xs = .error r → ∃ ws, Why K (He.ga K r.1) r.1 ws r.2
  | [], m, r, h => nomatch h
  | x :: xs, m, r, h => by
    cases hn : x.no m with
    | some r' =>
      rw [dealt_some hn] at h
      cases h
      exact no_why hn
    | none =>
      rw [dealt_none hn] at h
      exact dealt_why h
theorem cal__law_log_turn (T : Tp K mg) (TO : TboF w K) (TB : LamX.TabB base mg (He.cT K ("_law_log_turn", none)).1 (He.cT K ("_law_log_turn", none)).2) : Cal P w K mg base 19 "_law_log_turn" (sp_l8 K) := by
  obtain ⟨fd, F⟩ := f__law_log_turn T
  refine ⟨_, fd, _, [], fnok_t8 F sc__law_log_turn (fun vs H Q E h => ?_) (fun A outer s H vs Q E hr h => ?_), g__law_log_turn T, F.kp, b__law_log_turn F, .nil⟩
  · obtain ⟨_, O, f, c, st, wt, a, ss, us, rfl, _⟩ := h
    rfl
  · obtain ⟨i0, O, f, c, st, wt, a, ss, us, rfl, J, few, q⟩ := h
    have hu := hu_of hr
    have hu64 := hr.units
    have hun := Nat.lt_of_le_of_lt (Nat.add_le_add_left (show 1 ≤ 64 by decide) _) hr.units
    refine ⟨_, (pss_cons (ps_set (i := 4) sc__law_log_turn.nd rfl (.inl rfl) (C8.pe_c (cal__law_draw T) hr (by decide) rfl (pa_cons (pv 0) (pa_cons pe_int pa_nil))))
      (pss_cons (ps_if (pt_cmpR op_eq (pv 4) pe_int (nomark _)) (pss_cons (ps_set (i := 5) sc__law_log_turn.nd rfl (.inl rfl) (pe_why T TB List.mem_cons_self (tb8_turn (dt__law_log_turn T)) rfl hr (LamX.lamS_by (sc := defScope s__law_log_turn) (by decide +kernel)) (fun A' outer' s' H' E' f' c' hr tk => (pe_mx0 (metx_Log_undo T) tk (fun _ _ _ _ h => h) hr (by decide) (pv 1)))))
        (pss_cons (ps_if (pt_cmpR op_lt (pe_callB call_len_seq (by rfl) (z_len T) bb_len (pa_cons (pv 2) pa_nil)) pe_int (nomark _)) (pss_one (ps_ret (C8.pe_c (cal__law_same T) hr (by decide) rfl (pa_cons (pv 5) (pa_cons (pe_tup (pa_cons pe_non (pa_cons pe_str pa_nil))) pa_nil))))) pss_nil)
        (pss_cons (ps_expr (pe_bm PySem.F.plainAttrs_list PySem.F.slot_list_append PySem.F.type_list_append mt_append (pv 3) (pa_cons (pe_bm0 PySem.F.plainAttrs_list PySem.F.slot_list_pop PySem.F.type_list_pop mt_pop (pv 2)) pa_nil)))
        (pss_one (ps_ret (C8.pe_c (cal__law_told_right T) hr (by decide) rfl (pa_cons (pv 5) (pa_cons (pe_ix ix_tup (pe_ix ix_list (pv 3) (pe_un un_neg pe_int) (fun _ _ => rfl)) pe_int (fun _ _ => rfl)) pa_nil)))))))) pss_nil)
      (pss_cons (ps_if (pt_cmpR op_eq (pv 4) pe_int (nomark _)) (pss_cons (ps_set (i := 5) sc__law_log_turn.nd rfl (.inl rfl) (pe_why T TB List.mem_cons_self (tb8_turn (dt__law_log_turn T)) rfl hr (LamX.lamS_by (sc := defScope s__law_log_turn) (by decide +kernel)) (fun A' outer' s' H' E' f' c' hr tk => (pe_mx0 (metx_Log_redo T) tk (fun _ _ _ _ h => h) hr (by decide) (pv 1)))))
        (pss_cons (ps_if (pt_cmpR (op_eqNil hun) (pv 3) (pe_lst pa_nil) (nomark _)) (pss_one (ps_ret (C8.pe_c (cal__law_same T) hr (by decide) rfl (pa_cons (pv 5) (pa_cons (pe_tup (pa_cons pe_non (pa_cons pe_str pa_nil))) pa_nil))))) pss_nil)
        (pss_cons (ps_expr (pe_bm PySem.F.plainAttrs_list PySem.F.slot_list_append PySem.F.type_list_append mt_append (pv 2) (pa_cons (pe_bm0 PySem.F.plainAttrs_list PySem.F.slot_list_pop PySem.F.type_list_pop mt_pop (pv 3)) pa_nil)))
        (pss_one (ps_ret (C8.pe_c (cal__law_told_right T) hr (by decide) rfl (pa_cons (pv 5) (pa_cons (pe_ix ix_tup (pe_ix ix_list (pv 2) (pe_un un_neg pe_int) (fun _ _ => rfl)) pe_int (fun _ _ => rfl)) pa_nil)))))))) pss_nil)
      (pss_cons (ps_set (i := 6) sc__law_log_turn.nd rfl (.inl rfl) (pe_ix ix_tup (pe_ix ix_list (pv 2) (pe_un un_neg pe_int) (fun _ _ => rfl)) pe_int (fun _ _ => rfl)))
      (pss_cons (ps_set (i := 7) sc__law_log_turn.nd rfl (.inr rfl) (C8.pe_c (cal__law_some_entry T) hr (by decide) rfl (pa_cons (pv 0) (pa_cons (pv 6) pa_nil))))
      (pss_cons (ps_asg (C8.pe_c (cal__law_entry_word T) hr (by decide) rfl (pa_cons (pv 6) (pa_cons (pv 7) pa_nil))) (pg_tup rfl (pgs_cons (pg_name (i := 8) sc__law_log_turn.nd rfl (.inl rfl)) (pgs_cons (pg_name (i := 9) sc__law_log_turn.nd rfl (.inl rfl)) pgs_nil))))
      (pss_cons (ps_set (i := 10) sc__law_log_turn.nd rfl (.inr rfl) (pe_ifExp (pt_val (pe_callB (call_isKq (K := K) rfl) (by rfl) (z_isinstance T) bb_isinstance (pa_cons (pv 7) (pa_cons (pe_bltn (v := .ty "list") (by rfl) (z_list T) bb_list rfl) pa_nil)))) (pe_callTy call_list_of (by rfl) (z_list T) bb_list (pa_cons (pv 7) pa_nil)) (pv 7)))
      (pss_lam (i := 11) sc__law_log_turn.nd rfl (.inl rfl) TB rfl List.mem_cons_self (tb8_turn (dt__law_log_turn T)) (LamX.lamS_by (sc := defScope s__law_log_turn) (by decide +kernel)) (fun f__law_ask c__law_ask pn__law_ask kp__law_ask =>
      (pss_cons (ps_asg (pe_whyv (i := 11) T kp__law_ask rfl (.inl rfl) hr (LamX.lamS_by (sc := defScope s__law_log_turn) (by decide +kernel)) (fun A' outer' s' H' E' hr tk => (pe_ifExp (pt_val (pe_callB (call_isKq (K := K) rfl) (by rfl) (z_isinstance T) bb_isinstance (pa_cons (pv 7) (pa_cons (pe_bltn (v := .ty "list") (by rfl) (z_list T) bb_list rfl) pa_nil)))) (pe_mx (metx_Log_deal T TO) tk (fun _ _ _ _ h => h) hr (by decide) (pv 1) (pa_cons (pv 10) pa_nil)) (pe_mx (metx_Log_do T TO) tk (fun _ _ _ _ h => h) hr (by decide) (pv 1) (pa_cons (pv 10) pa_nil))))) (pg_tup rfl (pgs_cons (pg_name (i := 12) sc__law_log_turn.nd rfl (.inl rfl)) (pgs_cons (pg_name (i := 5) sc__law_log_turn.nd rfl (.inl rfl)) pgs_nil))))
      (pss_cons (ps_if (PW.pt (pw_or (pt_cmpR op_ne (pv 5) (pv 8) (nomark _)) (pw_or1 (pt_cmpR (op_neD hu64) (pv 10) (pv 7) (nomark _))))) (pss_one (ps_ret pe_bl)) pss_nil)
      (pss_cons (ps_if (pt_cmpR op_eq (pv 8) pe_str (nomark _)) (pss_cons (ps_expr (pe_bm PySem.F.plainAttrs_list PySem.F.slot_list_append PySem.F.type_list_append mt_append (pv 2) (pa_cons (pe_tup (pa_cons (pv 7) (pa_cons (pv 9) pa_nil))) pa_nil)))
        (pss_cons (ps_expr (pe_bm0 PySem.F.plainAttrs_list PySem.F.slot_list_clear PySem.F.type_list_clear mt_clear (pv 3)))
        (pss_cons (ps_if (pt_val (pe_callB (call_isKq (K := K) rfl) (by rfl) (z_isinstance T) bb_isinstance (pa_cons (pv 7) (pa_cons (pe_bltn (v := .ty "list") (by rfl) (z_list T) bb_list rfl) pa_nil)))) (pss_one (ps_expr (pe_bm0 PySem.F.plainAttrs_list PySem.F.slot_list_clear PySem.F.type_list_clear mt_clear (pv 10)))) pss_nil)
        (pss_one (ps_ret (C8.pe_c (cal__law_stands T) hr (by decide) rfl (pa_cons (pv 12) (pa_cons (pv 9) pa_nil)))))))) pss_nil)
      (pss_one (ps_ret pe_bl)))))))))))))), ?_⟩
    refine ⟨_, rfl, f, c, 7, rfl, J.fl, by decide, by decide, fun k H1 k0 k7 sb1 F1 => ⟨_, rfl, rfl, _, rfl, ?_⟩⟩
    have J1 := J.sbf sb1 F1
    by_cases e0 : V.int k = V.int 0
    · rw [decide_eq_true e0]
      refine iteT ⟨J1.tab, fun H2 e2 t2 => ?_⟩
      have J2 := J1.ext e2 t2
      have kmA : KmL (Mw f st wt a) H H2 := (KmL.sbf sb1).trans (.ext e2)
      have ldn : (lgOf ss us).done.length = ss.length := List.length_map _
      refine ⟨_, rfl, a.p, a.dx, _, rfl, J2.lg.obj, lf_no (by decide +kernel), a, lgOf ss us, rfl, J2.lg, by omega, by show us.length ≤ 900; omega, fun e => ?_, fun ds xs ms m e1 e2 => ?_⟩
      · have e : ss = [] := List.length_eq_zero_iff.1 (by rw [← ldn, e]; rfl)
        subst e
        refine fun dd H3 s3 nd hd => ⟨_, dd, _, _, _, .cNothingBack, rfl, rfl, hd, fun t nt => ?_⟩
        have s4 := s3.trans (same_upd (o := .tup [.non, .str "NothingBack"]) nt)
        have ht : upd H3 t (.tup [.non, .str "NothingBack"]) t = some (.tup [.non, .str "NothingBack"]) := upd_same
        have J4 := J2.same s4
        generalize upd H3 t (.tup [.non, .str "NothingBack"]) = H4 at ht J4 s4 ⊢
        obtain ⟨vs, h1, P1⟩ := J4.hst
        have l1 := P1.length
        refine ⟨_, rfl, st, _, rfl, .inl (.inl (.inl h1)), _, _, rfl, rfl, _, rfl, ?_⟩
        rw [l1, show decide (((rowsOf []).length : Nat) < (2 : Int)) = true by rw [rows_len]; decide]
        refine iteT ⟨_, rfl, (by show 2 ≤ sizeLine; decide), fun u nu => ?_⟩
        have s5 := same_upd (o := .tup [.non, .str "NothingBack"]) nu
        exact ⟨_, _, rfl, sm_tup (s5 _ _ ht) upd_same rfl (by show 2 ≤ 1000; decide) (sm_flats rfl), fun H6 s6 => q a H6 [] us rfl (J4.same (s5.trans s6)) (Nat.le_succ _) (fun h => h) (kmA.trans (.same (s4.trans (s5.trans s6)))) fun _ h => .inl h⟩
      · obtain ⟨s0, rfl, rfl, rfl⟩ := snoc_of e1 e2
        have gr := J.gs _ (List.mem_append_right _ (List.mem_singleton.2 rfl))
        refine ⟨gr.ne, fun v H3 U A0 Td => ⟨_, rfl, _, rfl, (by show 2 ≤ sizeLine; decide), fun t nt => ?_⟩⟩
        have A : LgAt K H3 a (lgOf s0 (us ++ [(xs, m)])) := A0
        obtain ⟨vs, h2, P2⟩ := J2.hst
        rw [rows_snoc] at P2
        obtain ⟨vs0, v9, rfl, P0, t9, y9, dm9, rfl, ht9, B9⟩ := paired_last P2
        have lv : vs0.length = s0.length + 1 := by rw [P0.length, rows_len]
        obtain ⟨ws, w2, Pw⟩ := J2.hwt
        have lw : ws.length = us.length := by rw [Pw.length, List.length_map]
        obtain ⟨⟨f1, f2, f3, f4, f5⟩, ⟨c1, c2, c3, c4, c5⟩, ⟨s1, s2, s3, s4⟩, ⟨w3, w4, w5⟩⟩ := J.ap
        have h3 := U _ _ h2 s2 s3 s4
        have w6 := U _ _ w2 w3 w4 w5
        have ut := same_upd (o := .tup [v, .str ""]) nt
        have ht : upd H3 t (.tup [v, .str ""]) t = some (.tup [v, .str ""]) := upd_same
        obtain ⟨xw, x1, _⟩ := J2.lg.webs
        obtain ⟨xd, x2, _⟩ := J2.lg.done
        obtain ⟨xu, x3, _⟩ := J2.lg.und
        have ht93 := U _ _ ht9 (ne_of ht9 x1 (fun z => nomatch z)) (ne_of ht9 x2 (fun z => nomatch z)) (ne_of ht9 x3 (fun z => nomatch z))
        have h4 := ut _ _ h3
        have w7 := ut _ _ w6
        have ht94 := ut _ _ ht93
        have to4 := to_same Td.1 ut
        generalize upd H3 t (.tup [v, .str ""]) = H4 at ut ht h4 w7 ht94 to4 ⊢
        refine ⟨_, rfl, st, _, rfl, .inl (.inl (.inl h4)), _, _, rfl, rfl, _, rfl, ?_⟩
        rw [decide_eq_false (show ¬ (((vs0 ++ [V.ref t9]).length : Nat) : Int) < 2 by rw [List.length_append]; show ¬ (((vs0.length + 1 : Nat)) : Int) < 2; omega)]
        refine iteF ⟨_, rfl, .inl ⟨rfl, _, .inl (.inl w7)⟩, _, rfl, .inl ⟨rfl, _, .inl (.inl h4)⟩, st, _, _, rfl, rfl, h4, last_at, ?_⟩
        rw [List.dropLast_concat]
        refine ⟨wt, ws, _, rfl, rfl, by rw [upd_ne s1.symm]; exact w7, small1000 (by omega), ?_⟩
        have keep46 : ∀ {b : Addr} {o : HO}, H4 b = some o → b ≠ st → b ≠ wt → (upd (upd H4 st (.lst vs0)) wt (.lst (ws ++ [.ref t9]))) b = some o := fun e n1 n2 => by
          rw [upd_ne n2, upd_ne n1]
          exact e
        have w8 : (upd (upd H4 st (.lst vs0)) wt (.lst (ws ++ [.ref t9]))) wt = some (.lst (ws ++ [.ref t9])) := upd_same
        have h8 : (upd (upd H4 st (.lst vs0)) wt (.lst (ws ++ [.ref t9]))) st = some (.lst vs0) := by
          rw [upd_ne s1]
          exact upd_same
        generalize upd (upd H4 st (.lst vs0)) wt (.lst (ws ++ [.ref t9])) = H6 at keep46 w8 h8 ⊢
        have nst : ∀ {z : Addr} {x : HO}, H2 z = some x → xs.length = 1 ∨ v ≠ .ref z := fun {z x} e => by
          by_cases l : xs.length = 1
          · exact .inl l
          · obtain ⟨D, rfl, hD⟩ := Td.2 l
            exact .inr fun h => by rw [V.ref.inj h, e] at hD; cases hD
        have km6 : KmL (Mw f st wt a) H2 H6 := fun b o e _ n => keep46 (ut _ _ (U _ _ e (fun h => n (.inr (.inr (.inr (.inr (.inl h)))))) (fun h => n (.inr (.inr (.inr (.inr (.inr (.inl h))))))) fun h => n (.inr (.inr (.inr (.inr (.inr (.inr h)))))))) (fun h => n (.inr (.inl h))) fun h => n (.inr (.inr (.inl h)))
        have nt2 := J2.nt
        have to9 := (B9.km km6.o nt2 (fun _ h => .inl h)).choose_spec.choose_spec.choose_spec.2.2.1
        have to6 : ToAt H6 v xs := by
          rcases to4 with ⟨tt, x, ex, ev, h⟩ | ⟨n1, D, ts, ev, hD, R⟩
          · exact .inl ⟨tt, x, ex, ev, keep46 h (ne_of h h4 (fun z => nomatch z)) (ne_of h w7 (fun z => nomatch z))⟩
          · obtain ⟨D', e', hD'⟩ := Td.2 n1
            rw [ev] at e'
            cases e'
            exact .inr ⟨n1, D, ts, ev, keep46 hD (fun z => by rw [z, h2] at hD'; cases hD') (fun z => by rw [z, w2] at hD'; cases hD'), R.keep fun b zs e => keep46 e (ne_of e h4 (fun z => nomatch z)) (ne_of e w7 (fun z => nomatch z))⟩
        refine ⟨_, rfl, _, rfl, 1, rfl, wt, _, -1, _, rfl, rfl, .inl (.inl w8), atI_last _ _, t9, _, 0, _, rfl, rfl, .inl (.inl (keep46 ht94 (ne_of ht94 h4 (fun z => nomatch z)) (ne_of ht94 w7 (fun z => nomatch z)))), atI_nat (j := 0) rfl, t, v, y9, xs, rfl, keep46 ht (ne_of ht h4 (fun z => nomatch z)) (ne_of ht w7 (fun z => nomatch z)), to6, to9, gr.le, fun H7 k7 => ?_⟩
        have Z : Fin8 f c st wt a a (fun D => v = .ref D ∧ xs.length ≠ 1) H2 H3 H7 := ⟨fun b o e _ n => U _ _ e (fun h => n (.inr (.inl h))) (fun h => n (.inr (.inr (.inl h)))) fun h => n (.inr (.inr (.inr h))), rfl, rfl, rfl, .inl rfl, fun b o e n1 n2 nX => k7 _ _ (keep46 (ut _ _ e) n1 n2) (by
            by_cases l : xs.length = 1
            · exact .inl l
            · exact .inr fun h => nX ⟨h, l⟩), fun D ⟨eD, l⟩ => by
          obtain ⟨D', e', hD'⟩ := Td.2 l
          rw [eD] at e'
          cases e'
          refine ⟨hD', fun z => ?_, ?_⟩
          · rw [z, x3] at hD'
            cases hD'
          · rcases Td.1 with ⟨tt, x, ex, _⟩ | ⟨_, D2, ts, ev, hD2, _⟩
            · exact absurd (by rw [ex]; rfl) l
            · rw [eD] at ev
              cases ev
              exact ⟨ts, hD2⟩⟩
        have r9 : StAt (Mz O f st wt a) H2 (.ref t9) (some xs, m) := ⟨t9, y9, dm9, rfl, ht9, B9⟩
        refine q a H7 s0 (us ++ [(xs, m)]) rfl (J2.fin Z A ⟨vs0, k7 _ _ h8 (nst h2), J2.rows Z.km Z.grow P0⟩ ⟨ws ++ [.ref t9], k7 _ _ w8 (nst w2), ?_⟩ (tabs_li J2.tab fun b o e nl ni => k7 _ _ (keep46 (ut _ _ (U _ _ e (ne_of e x1 (nl _)) (ne_of e x2 (nl _)) (ne_of e x3 (nl _)))) (ne_of e h2 (nl _)) (ne_of e w2 (nl _))) (nst e)) (fun r hr => J.gs r (List.mem_append_left _ hr)) fun r hr => ?_) ?_ (fun h => by rw [List.reverse_append, ← List.append_assoc]; exact h) (kmA.trans Z.km) fun _ h => .inl h
        · rw [List.map_append]
          exact J2.rows Z.km Z.grow (Paired.snoc Pw r9)
        · rcases List.mem_append.1 hr with h | h
          · exact J.gu r h
          · rw [List.mem_singleton.1 h]
            exact gr
        · rw [List.length_append, List.length_append]
          show s0.length + (us.length + 1) ≤ s0.length + 1 + us.length + 1
          omega
    rw [decide_eq_false e0]
    refine iteF ⟨_, rfl, rfl, _, rfl, ?_⟩
    by_cases e1 : V.int k = V.int 1
    · rw [decide_eq_true e1]
      refine iteT ⟨J1.tab, fun H2 e2 t2 => ?_⟩
      have J2 := J1.ext e2 t2
      have kmA : KmL (Mw f st wt a) H H2 := (KmL.sbf sb1).trans (.ext e2)
      have ldn : (lgOf ss us).done.length = ss.length := List.length_map _
      refine ⟨_, rfl, a.p, a.dx, _, rfl, J2.lg.obj, lf_no (by decide +kernel), a, lgOf ss us, rfl, J2.lg, by omega, fun e => ?_, fun us0 xs m e => ?_⟩
      · have e : us = [] := e
        subst e
        refine fun dd H3 s3 nd hd => ⟨_, dd, _, _, _, .cNothingBack, rfl, rfl, hd, fun t nt => ?_⟩
        have s4 := s3.trans (same_upd (o := .tup [.non, .str "NothingBack"]) nt)
        have ht : upd H3 t (.tup [.non, .str "NothingBack"]) t = some (.tup [.non, .str "NothingBack"]) := upd_same
        have J4 := J2.same s4
        generalize upd H3 t (.tup [.non, .str "NothingBack"]) = H4 at ht J4 s4 ⊢
        obtain ⟨ws, w1, P1⟩ := J4.hwt
        cases P1
        refine ⟨_, rfl, Nat.zero_le _, fun E0 nE => ?_⟩
        have sE := same_upd (o := .lst []) nE
        refine ⟨wt, E0, [], rfl, rfl, .inl (.inl (sE _ _ w1)), .inl (.inl upd_same), _, rfl, ?_⟩
        refine iteT ⟨_, rfl, (by show 2 ≤ sizeLine; decide), fun u nu => ?_⟩
        have s5 := same_upd (o := .tup [.non, .str "NothingBack"]) nu
        exact ⟨_, _, rfl, sm_tup (s5 _ _ (sE _ _ ht)) upd_same rfl (by show 2 ≤ 1000; decide) (sm_flats rfl), fun H6 s6 => q a H6 ss [] rfl (J4.same ((sE.trans s5).trans s6)) (Nat.le_succ _) (fun h => h) (kmA.trans (.same (s4.trans ((sE.trans s5).trans s6)))) fun _ h => .inl h⟩
      · have e : us = us0 ++ [(xs, m)] := e
        subst e
        have gr := J.gu _ (List.mem_append_right _ (List.mem_singleton.2 rfl))
        refine ⟨gr.ne, fun v H3 U A0 Td => ⟨_, rfl, _, rfl, (by show 2 ≤ sizeLine; decide), fun t nt => ?_⟩⟩
        have A : LgAt K H3 a (lgOf (ss ++ [(xs, m)]) us0) := by
          have ea : lgOf (ss ++ [(xs, m)]) us0 = ⟨(rowsOf ss).map (·.2) ++ [m], ss.map (·.1) ++ [xs], us0⟩ := by
            unfold lgOf
            rw [rows_snoc, List.map_append, List.map_append]
            rfl
          rw [ea]
          exact A0
        obtain ⟨vs, h2, P2⟩ := J2.hst
        have lv : vs.length = ss.length + 1 := by rw [P2.length, rows_len]
        obtain ⟨ws, w2, Pw⟩ := J2.hwt
        rw [List.map_append] at Pw
        obtain ⟨ws0, v9, rfl, P0, t9, y9, dm9, rfl, ht9, B9⟩ := paired_last Pw
        have lw : ws0.length = us0.length := by rw [P0.length, List.length_map]
        obtain ⟨⟨f1, f2, f3, f4, f5⟩, ⟨c1, c2, c3, c4, c5⟩, ⟨s1, s2, s3, s4⟩, ⟨w3, w4, w5⟩⟩ := J.ap
        have h3 := U _ _ h2 s2 s3 s4
        have w6 := U _ _ w2 w3 w4 w5
        have ut := same_upd (o := .tup [v, .str ""]) nt
        have ht : upd H3 t (.tup [v, .str ""]) t = some (.tup [v, .str ""]) := upd_same
        obtain ⟨xw, x1, _⟩ := J2.lg.webs
        obtain ⟨xd, x2, _⟩ := J2.lg.done
        obtain ⟨xu, x3, _⟩ := J2.lg.und
        have ht93 := U _ _ ht9 (ne_of ht9 x1 (fun z => nomatch z)) (ne_of ht9 x2 (fun z => nomatch z)) (ne_of ht9 x3 (fun z => nomatch z))
        have h4 := ut _ _ h3
        have w7 := ut _ _ w6
        have ht94 := ut _ _ ht93
        have to4 := to_same Td.1 ut
        generalize upd H3 t (.tup [v, .str ""]) = H4 at ut ht h4 w7 ht94 to4 ⊢
        refine ⟨_, rfl, Nat.zero_le _, fun E0 nE => ?_⟩
        have sE := same_upd (o := .lst []) nE
        have hE : upd H4 E0 (.lst []) E0 = some (.lst []) := upd_same
        replace ut := ut.trans sE
        replace ht := sE _ _ ht
        replace h4 := sE _ _ h4
        replace w7 := sE _ _ w7
        replace ht94 := sE _ _ ht94
        replace to4 := to_same to4 sE
        generalize upd H4 E0 (.lst []) = H5 at ut ht h4 w7 ht94 to4 hE ⊢
        refine ⟨wt, E0, _, rfl, rfl, .inl (.inl w7), .inl (.inl hE), _, rfl, ?_⟩
        rw [show (ws0 ++ [V.ref t9]).isEmpty = false by cases ws0 <;> rfl]
        refine iteF ⟨_, rfl, .inl ⟨rfl, _, .inl (.inl h4)⟩, _, rfl, .inl ⟨rfl, _, .inl (.inl w7)⟩, wt, _, _, rfl, rfl, w7, last_at, ?_⟩
        rw [List.dropLast_concat]
        refine ⟨st, vs, _, rfl, rfl, by rw [upd_ne s1]; exact h4, small1000 (by rw [List.length_append] at few; omega), ?_⟩
        have keep46 : ∀ {b : Addr} {o : HO}, H5 b = some o → b ≠ st → b ≠ wt → (upd (upd H5 wt (.lst ws0)) st (.lst (vs ++ [.ref t9]))) b = some o := fun e n1 n2 => by
          rw [upd_ne n1, upd_ne n2]
          exact e
        have h8 : (upd (upd H5 wt (.lst ws0)) st (.lst (vs ++ [.ref t9]))) st = some (.lst (vs ++ [.ref t9])) := upd_same
        have w8 : (upd (upd H5 wt (.lst ws0)) st (.lst (vs ++ [.ref t9]))) wt = some (.lst ws0) := by
          rw [upd_ne s1.symm]
          exact upd_same
        generalize upd (upd H5 wt (.lst ws0)) st (.lst (vs ++ [.ref t9])) = H6 at keep46 w8 h8 ⊢
        have nst : ∀ {z : Addr} {x : HO}, H2 z = some x → xs.length = 1 ∨ v ≠ .ref z := fun {z x} e => by
          by_cases l : xs.length = 1
          · exact .inl l
          · obtain ⟨D, rfl, hD⟩ := Td.2 l
            exact .inr fun h => by rw [V.ref.inj h, e] at hD; cases hD
        have km6 : KmL (Mw f st wt a) H2 H6 := fun b o e _ n => keep46 (ut _ _ (U _ _ e (fun h => n (.inr (.inr (.inr (.inr (.inl h)))))) (fun h => n (.inr (.inr (.inr (.inr (.inr (.inl h))))))) fun h => n (.inr (.inr (.inr (.inr (.inr (.inr h)))))))) (fun h => n (.inr (.inl h))) fun h => n (.inr (.inr (.inl h)))
        have nt2 := J2.nt
        have to9 := (B9.km km6.o nt2 (fun _ h => .inl h)).choose_spec.choose_spec.choose_spec.2.2.1
        have to6 : ToAt H6 v xs := by
          rcases to4 with ⟨tt, x, ex, ev, h⟩ | ⟨n1, D, ts, ev, hD, R⟩
          · exact .inl ⟨tt, x, ex, ev, keep46 h (ne_of h h4 (fun z => nomatch z)) (ne_of h w7 (fun z => nomatch z))⟩
          · obtain ⟨D', e', hD'⟩ := Td.2 n1
            rw [ev] at e'
            cases e'
            exact .inr ⟨n1, D, ts, ev, keep46 hD (fun z => by rw [z, h2] at hD'; cases hD') (fun z => by rw [z, w2] at hD'; cases hD'), R.keep fun b zs e => keep46 e (ne_of e h4 (fun z => nomatch z)) (ne_of e w7 (fun z => nomatch z))⟩
        refine ⟨_, rfl, _, rfl, 1, rfl, st, _, -1, _, rfl, rfl, .inl (.inl h8), atI_last _ _, t9, _, 0, _, rfl, rfl, .inl (.inl (keep46 ht94 (ne_of ht94 h4 (fun z => nomatch z)) (ne_of ht94 w7 (fun z => nomatch z)))), atI_nat (j := 0) rfl, t, v, y9, xs, rfl, keep46 ht (ne_of ht h4 (fun z => nomatch z)) (ne_of ht w7 (fun z => nomatch z)), to6, to9, gr.le, fun H7 k7 => ?_⟩
        have Z : Fin8 f c st wt a a (fun D => v = .ref D ∧ xs.length ≠ 1) H2 H3 H7 := ⟨fun b o e _ n => U _ _ e (fun h => n (.inr (.inl h))) (fun h => n (.inr (.inr (.inl h)))) fun h => n (.inr (.inr (.inr h))), rfl, rfl, rfl, .inl rfl, fun b o e n1 n2 nX => k7 _ _ (keep46 (ut _ _ e) n1 n2) (by
            by_cases l : xs.length = 1
            · exact .inl l
            · exact .inr fun h => nX ⟨h, l⟩), fun D ⟨eD, l⟩ => by
          obtain ⟨D', e', hD'⟩ := Td.2 l
          rw [eD] at e'
          cases e'
          refine ⟨hD', fun z => ?_, ?_⟩
          · rw [z, x3] at hD'
            cases hD'
          · rcases Td.1 with ⟨tt, x, ex, _⟩ | ⟨_, D2, ts, ev, hD2, _⟩
            · exact absurd (by rw [ex]; rfl) l
            · rw [eD] at ev
              cases ev
              exact ⟨ts, hD2⟩⟩
        have r9 : StAt (Mz O f st wt a) H2 (.ref t9) (some xs, m) := ⟨t9, y9, dm9, rfl, ht9, B9⟩
        refine q a H7 (ss ++ [(xs, m)]) us0 rfl (J2.fin Z A ⟨vs ++ [.ref t9], k7 _ _ h8 (nst h2), ?_⟩ ⟨ws0, k7 _ _ w8 (nst w2), J2.rows Z.km Z.grow P0⟩ (tabs_li J2.tab fun b o e nl ni => k7 _ _ (keep46 (ut _ _ (U _ _ e (ne_of e x1 (nl _)) (ne_of e x2 (nl _)) (ne_of e x3 (nl _)))) (ne_of e h2 (nl _)) (ne_of e w2 (nl _))) (nst e)) (fun r hr => ?_) fun r hr => J.gu r (List.mem_append_left _ hr)) ?_ (fun h => by rw [List.reverse_append, ← List.append_assoc] at h; exact h) (kmA.trans Z.km) fun _ h => .inl h
        · rw [rows_snoc]
          exact J2.rows Z.km Z.grow (Paired.snoc P2 r9)
        · rcases List.mem_append.1 hr with h | h
          · exact J.gs r h
          · rw [List.mem_singleton.1 h]
            exact gr
        · rw [List.length_append, List.length_append]
          show ss.length + 1 + us0.length ≤ ss.length + (us0.length + 1) + 1
          omega
    rw [decide_eq_false e1]
    refine iteF ?_
    obtain ⟨vs1, v1, ee, h1, ⟨t1, y1, dm, rfl, ht1, o1, u1, b1, X1, off1, en1⟩, l1⟩ := J1.last
    refine ⟨_, rfl, 1, rfl, st, _, -1, _, rfl, rfl, .inl (.inl h1), atI_last _ _, t1, _, 1, _, rfl, rfl, .inl (.inl ht1), atI_nat (j := 1) rfl, ?_⟩
    refine ⟨_, rfl, _, rfl, f, c, dm, topM ss, rfl, J1.fl, X1.at, J1.topOk, fun te xs H2 sb2 F2 nte tte xne xle xns => ?_⟩
    have J2 := J1.sbf sb2 F2
    refine ⟨_, rfl, _, rfl, dm, .ref te, topM ss, xs, rfl, (X1.sb J1.fl sb2).at, J1.topOk, tte, xns, xne, fun t3 d' H3 s3 ht3 nx => ?_⟩
    have J3 := J2.same s3
    have kmD : KmL (Mw f st wt a) H H3 := ((KmL.sbf sb1).trans (KmL.sbf sb2)).trans (.same s3)
    have toe3 := to_same tte s3
    refine ⟨t3, _, rfl, .inl (.inl ht3), rfl, _, _, rfl, _, _, rfl, rfl, ?_⟩
    have fine : ∀ x ∈ xs, x.Fine := fun x hx => (xns x hx).fine
    have ldn : (lgOf ss us).done.length ≤ 900 := by
      show (ss.map (·.1)).length ≤ 900
      rw [List.length_map]
      omega
    have toe3' := toe3
    rcases toe3' with ⟨te', x, ex, ev, h3⟩ | ⟨nl, te', ts, ev, h3, R3⟩
    · cases ev
      refine ⟨_, rfl, .ref te, "list", "tuple", rfl, .base (.tup h3), by decide, by decide, _, rfl, iteF ⟨_, rfl, ?_⟩⟩
      have s34 : Same H3 H3 := Same.refl _
      have nh : xs.length ≠ 1 → H3 te = none := fun z => absurd (by rw [ex]; rfl) z
      refine ⟨J3.tab, fun H5 ff cc pn e5 t5 hcode => ?_⟩
      have J5 := J3.ext e5 t5
      have hte5 := e5 _ _ h3 (fun ps z => nomatch z)
      have toh5 : ToAt H5 (.ref te) xs := .inl ⟨te, x, ex, rfl, hte5⟩
      have toe5 := toh5
      refine ⟨rfl, hcode, _, rfl, .ref te, "list", "tuple", rfl, .base (.tup hte5), by decide, by decide, _, rfl, iteF ⟨_, rfl, a.p, a.dx, _, rfl, J5.lg.obj, lf_no (by decide +kernel), _, rfl, a, lgOf ss us, topM ss, te, x, rfl, J5.lg, J5.webs_last, hte5, fine x (by rw [ex]; exact List.mem_cons_self), ldn, fun r er => ?_, fun m' em q0 u' H6 Did6 nu A6 W6 => ?_⟩⟩
      · rw [← ex] at er
        obtain ⟨wy0, wy⟩ := dealt_why (K := K) er
        refine fun dd H6 s6 nd hd => ⟨_, dd, _, _, _, wy, rfl, rfl, hd, fun t nt => ?_⟩
        have s7 := s6.trans (same_upd (o := .tup [.non, .str r.1]) nt)
        have ht : upd H6 t (.tup [.non, .str r.1]) t = some (.tup [.non, .str r.1]) := upd_same
        have J7 := J5.same s7
        have toh7 := to_same toh5 s7
        have toe7 := to_same toe5 s7
        generalize upd H6 t (.tup [.non, .str r.1]) = H7 at ht J7 toh7 toe7 s7 ⊢
        refine ⟨t, _, rfl, .inl (.inl ht), rfl, _, _, rfl, _, _, rfl, rfl, ?_⟩
        refine ⟨_, rfl, _, rfl, rfl, _, rfl, ?_⟩
        have en : ¬ r.1 = "" := dealt_ne er
        rw [dealtW_err er, decide_eq_true (rfl : V.str r.1 = V.str r.1)]
        obtain ⟨p1, p2⟩ := pdOf_ok xns
        refine iteF ⟨_, rfl, _, rfl, pdOf xs, pdOf xs, to_dp toh7 xns, to_dp toe7 xns, p1, p1, _, rfl, ?_⟩
        rw [p2]
        refine iteF ⟨_, rfl, rfl, _, rfl, ?_⟩
        rw [decide_eq_false (show ¬ V.str r.1 = V.str "" from fun e => en (V.str.inj e))]
        exact iteF (q a H7 ss us rfl J7 (Nat.le_succ _) (fun h => h) (((kmD.trans (.same s34)).trans (.ext e5)).trans (.same s7)) fun _ h => .inl h)
      · rw [← ex] at em A6
        refine ⟨_, rfl, _, rfl, (by show 2 ≤ sizeLine; decide), fun t nt => ?_⟩
        have em := em
        have nM56 : ∀ {b : Addr} {o : HO}, H5 b = some o → ¬ Mw f st wt a b → H6 b = some o := fun e n => Did6 _ _ e (fun h => n (.inr (.inr (.inr (.inl h))))) (fun h => n (.inr (.inr (.inr (.inr (.inl h)))))) fun h => n (.inr (.inr (.inr (.inr (.inr (.inl h))))))
        obtain ⟨xw, x1, _⟩ := J5.lg.webs
        obtain ⟨xd, x2, _⟩ := J5.lg.done
        have kt56 : Kt H5 H6 := fun b zs e => Did6 _ _ e (ne_of e J5.lg.obj (fun z => nomatch z)) (ne_of e x1 (fun z => nomatch z)) (ne_of e x2 (fun z => nomatch z))
        have to6 : ∀ {v : V}, ToAt H5 v xs → (xs.length ≠ 1 → ∃ D, v = .ref D ∧ ¬ Mw f st wt a D) → ToAt H6 v xs := fun h n => by
          rcases h with ⟨tt, x, ex, ev, h⟩ | ⟨n1, D, ts, ev, hD, R⟩
          · exact .inl ⟨tt, x, ex, ev, kt56 _ _ h⟩
          · obtain ⟨D', e', hD'⟩ := n n1
            rw [ev] at e'
            cases e'
            exact .inr ⟨n1, D, ts, ev, nM56 hD hD', R.keep kt56⟩
        have toh6 := to6 toh5 fun l => ⟨te, rfl, J3.newW (nh l)⟩
        have toe6 := to6 toe5 fun _ => ⟨te, rfl, J1.newW nte⟩
        obtain ⟨vs, h5, P5⟩ := J5.hst
        obtain ⟨ws, w5, Pw5⟩ := J5.hwt
        have lv : vs.length = ss.length + 1 := by rw [P5.length, rows_len]
        obtain ⟨⟨f1, f2, f3, f4, f5⟩, ⟨c1, c2, c3, c4, c5⟩, ⟨s1, s2, s3', s4⟩, ⟨w3, w4, w5'⟩⟩ := J.ap
        have h6 := Did6 _ _ h5 (J5.npf h5).symm s2 s3'
        have w6 := Did6 _ _ w5 (J5.npf w5).symm w3 w4
        have ut := same_upd (o := .tup [.ref q0, .str ""]) nt
        have ht : upd H6 t (.tup [.ref q0, .str ""]) t = some (.tup [.ref q0, .str ""]) := upd_same
        have h7 := ut _ _ h6
        have w7 := ut _ _ w6
        have toh7 := to_same toh6 ut
        have toe7 := to_same toe6 ut
        generalize upd H6 t (.tup [.ref q0, .str ""]) = H7 at ut ht h7 w7 toh7 toe7 ⊢
        refine ⟨t, _, rfl, .inl (.inl ht), rfl, _, _, rfl, _, _, rfl, rfl, ?_⟩
        refine ⟨_, rfl, _, rfl, rfl, _, rfl, ?_⟩
        rw [dealtW_ok em, decide_eq_true (rfl : V.str "" = V.str "")]
        obtain ⟨p1, p2⟩ := pdOf_ok xns
        refine iteF ⟨_, rfl, _, rfl, pdOf xs, pdOf xs, to_dp toh7 xns, to_dp toe7 xns, p1, p1, _, rfl, ?_⟩
        rw [p2]
        refine iteF ⟨_, rfl, rfl, _, rfl, iteT ?_⟩
        refine ⟨_, rfl, .inl ⟨rfl, _, .inl (.inl h7)⟩, _, rfl, _, rfl, (by show 2 ≤ sizeLine; decide), fun tn ntn => ⟨st, vs, _, rfl, rfl, same_upd ntn _ _ h7, small1000 (by omega), ?_⟩⟩
        have ut8 := same_upd (o := .tup [.ref te, .ref d']) ntn
        have hn : upd H7 tn (.tup [.ref te, .ref d']) tn = some (.tup [.ref te, .ref d']) := upd_same
        have h7' := ut8 _ _ h7
        have w7' := ut8 _ _ w7
        have u67 := ut.trans ut8
        generalize upd H7 tn (.tup [.ref te, .ref d']) = HN at ut8 hn h7' w7' u67 ⊢
        have w8 : upd HN st (.lst (vs ++ [.ref tn])) wt = some (.lst ws) := by
          rw [upd_ne s1.symm]
          exact w7'
        refine ⟨_, rfl, .inl ⟨rfl, _, .inl (.inl w8)⟩, wt, _, rfl, rfl, w8, ?_⟩
        have keep78 : ∀ {b : Addr} {o : HO}, HN b = some o → b ≠ st → b ≠ wt → (upd (upd HN st (.lst (vs ++ [.ref tn]))) wt (.lst [])) b = some o := fun e n1 n2 => by
          rw [upd_ne n2, upd_ne n1]
          exact e
        have h8 : (upd (upd HN st (.lst (vs ++ [.ref tn]))) wt (.lst [])) st = some (.lst (vs ++ [.ref tn])) := by
          rw [upd_ne s1]
          exact upd_same
        have w8 : (upd (upd HN st (.lst (vs ++ [.ref tn]))) wt (.lst [])) wt = some (.lst []) := upd_same
        generalize upd (upd HN st (.lst (vs ++ [.ref tn]))) wt (.lst []) = H8 at keep78 h8 w8 ⊢
        have keep68 : ∀ {b : Addr} {o : HO}, H6 b = some o → b ≠ st → b ≠ wt → H8 b = some o := fun e n1 n2 => keep78 (u67 _ _ e) n1 n2
        have hn8 := keep78 hn (ne_of hn h7' (fun z => nomatch z)) (ne_of hn w7' (fun z => nomatch z))
        refine ⟨_, rfl, .ref te, "list", "tuple", rfl, .base (.tup (keep68 (kt56 _ _ hte5) (ne_of (kt56 _ _ hte5) h6 (fun z => nomatch z)) (ne_of (kt56 _ _ hte5) w6 (fun z => nomatch z)))), by decide, by decide, _, rfl, iteF ?_⟩
        have kX : ∀ {b : Addr} {o : HO}, H8 b = some o → ¬ (b = te ∧ xs.length ≠ 1) → H8 b = some o := fun e _ => e
        have hh5 : xs.length ≠ 1 → ∃ zs, H5 te = some (.lst zs) := fun l => by
          rcases toh5 with ⟨tt, x, ex, _⟩ | ⟨_, D2, ts, ev, hD2, _⟩
          · exact absurd (by rw [ex]; rfl) l
          · cases ev
            exact ⟨ts, hD2⟩
        have Z : Fin8 f c st wt a { a with u := u' } (fun D => D = te ∧ xs.length ≠ 1) H3 H6 H8 := ⟨fun b o e tn n => Did6 _ _ (e5 _ _ (s34 _ _ e) tn) (fun h => n (.inl h)) (fun h => n (.inr (.inl h))) fun h => n (.inr (.inr (.inl h))), rfl, rfl, rfl, .inr (fun o e => Classical.byContradiction fun z => by
            have := e5 _ _ (s34 _ _ e) fun ps h => z ⟨ps, h⟩
            rw [nu] at this
            cases this), fun b o e n1 n2 nX => kX (keep68 e n1 n2) nX, fun D ⟨eD, l⟩ => by
          subst eD
          obtain ⟨zs, hz⟩ := hh5 l
          refine ⟨nh l, fun z => ?_, zs, nM56 hz (J3.newW (nh l))⟩
          have z : D = u' := z
          rw [z, nu] at hz
          cases hz⟩
        obtain ⟨⟨o9, u9, b9, X9, n91, n92, n93, n94⟩, ok9⟩ := nx m' em
        have B3 : StB (Mz O f st wt a) H3 (.ref te) d' (some xs, m') := ⟨o9, u9, b9, X9, ⟨J2.new n91, J2.new n92, J2.new n93, J2.new n94⟩, toe3, fun _ => ⟨te, rfl, J1.new nte⟩⟩
        have B9 : StB (Mz O f st wt { a with u := u' }) H8 (.ref te) d' (some xs, m') := B3.km Z.km.o J3.nt fun y h => h.elim (fun h => (Z.grow y h).imp .inl id) fun h => .inl (.inr h)
        have nXo : ∀ {b : Addr} {o : HO}, H3 b = some o → ¬ (b = te ∧ xs.length ≠ 1) := fun {b o} e ⟨h, l⟩ => by
          rw [h, nh l] at e
          cases e
        obtain ⟨vs3, h33, P3⟩ := J3.hst
        obtain ⟨ws3, w33, _⟩ := J3.hwt
        have h35 := e5 _ _ (s34 _ _ h33) (fun ps z => nomatch z)
        rw [h5] at h35
        cases h35
        have nl9 : ∀ {b : Addr} {o : HO}, H6 b = some o → (∀ zs, o ≠ .lst zs) → H8 b = some o := fun {b o} e n => kX (keep68 e (ne_of e h6 (n _)) (ne_of e w6 (n _))) fun ⟨h, l⟩ => by
          obtain ⟨zs, hz⟩ := hh5 l
          rw [h, nM56 hz (J3.newW (nh l))] at e
          cases e
          exact n zs rfl
        have hn9 : H8 tn = some (.tup [.ref te, .ref d']) := kX hn8 fun ⟨h, l⟩ => by
          obtain ⟨zs, hz⟩ := hh5 l
          have z := u67 _ _ (nM56 hz (J3.newW (nh l)))
          rw [← h, hn] at z
          cases z
        have A6' : LgAt K H6 { a with u := u' } (lgOf (ss ++ [(xs, m')]) []) := by
          rw [← doo_of ss us]
          exact A6
        have J9 : J58 (tb8 K) K O f c st wt { a with u := u' } H8 (ss ++ [(xs, m')]) [] := by
          refine J3.fin Z A6' ⟨vs ++ [.ref tn], kX h8 (nXo h33), ?_⟩ ⟨[], kX w8 (nXo w33), .nil⟩ (tabs_li J5.tab fun b o e nl ni => nl9 (Did6 _ _ e (ne_of e J5.lg.obj (ni _ _ _)) (ne_of e x1 (nl _)) (ne_of e x2 (nl _))) nl) (fun r hr => ?_) fun r hr => nomatch hr
          · rw [rows_snoc]
            exact Paired.snoc (J3.rows Z.km Z.grow P3) ⟨tn, .ref te, d', rfl, hn9, B9⟩
          · rcases List.mem_append.1 hr with h | h
            · exact J.gs r h
            · rw [List.mem_singleton.1 h]
              exact ⟨ok9, xne, xle, xns⟩
        have W9 : WebAt (CW K) H8 q0 m' := Kw.at ⟨fun b zs e => nl9 e (fun zs z => nomatch z), fun q dx l a b c e => nl9 e (fun zs z => nomatch z)⟩ W6
        obtain ⟨oo, uu, bb, XX, _⟩ := B9
        refine ⟨_, rfl, _, rfl, q0, d', m', rfl, W9, XX.at, fun H10 s10 => q { a with u := u' } H10 (ss ++ [(xs, m')]) [] rfl (J9.same s10) ?_ (fun h => by rw [List.reverse_nil, List.append_nil]; exact chn_snoc (chn_app h) em) ((kmD.trans Z.km).trans (.same s10)) fun y h => (Z.grow y h).elim .inl kmD.back⟩
        rw [List.length_append]
        show ss.length + 1 + 0 ≤ _
        omega
    · cases ev
      refine ⟨_, rfl, .ref te, "list", "list", rfl, .base (.lst h3), by decide, by decide, _, rfl, iteT ⟨_, rfl, te, _, rfl, .inl (.inl (.inl h3)), fun Dh nDh => ?_⟩⟩
      have s34 := same_upd (o := .lst ts) nDh
      have nh : xs.length ≠ 1 → H3 Dh = none := fun _ => nDh
      have hD4 : upd H3 Dh (.lst ts) Dh = some (.lst ts) := upd_same
      have J4 := J3.same s34
      generalize upd H3 Dh (.lst ts) = H4 at s34 hD4 J4 ⊢
      refine ⟨J4.tab, fun H5 ff cc pn e5 t5 hcode => ?_⟩
      have J5 := J4.ext e5 t5
      have hte5 := e5 _ _ (s34 _ _ h3) (fun ps z => nomatch z)
      have hDh5 := e5 _ _ hD4 (fun ps z => nomatch z)
      have R5 : Rows H5 ts (xs.map Dd.row) := R3.keep fun b zs e => e5 _ _ (s34 _ _ e) (fun ps z => nomatch z)
      have toh5 : ToAt H5 (.ref Dh) xs := .inr ⟨nl, Dh, ts, rfl, hDh5, R5⟩
      have toe5 : ToAt H5 (.ref te) xs := .inr ⟨nl, te, ts, rfl, hte5, R5⟩
      have two : 2 ≤ xs.length := by
        have : xs.length ≠ 0 := fun z => xne (List.length_eq_zero_iff.1 z)
        omega
      refine ⟨rfl, hcode, _, rfl, .ref te, "list", "list", rfl, .base (.lst hte5), by decide, by decide, _, rfl, iteT ⟨_, rfl, a.p, a.dx, _, rfl, J5.lg.obj, lf_no (by decide +kernel), _, rfl, a, lgOf ss us, topM ss, Dh, ts, xs, rfl, J5.lg, J5.webs_last, hDh5, R5, two, by omega, fine, ldn, fun r er => ?_, fun m' em q0 u' H6 Did6 nu A6 W6 => ?_⟩⟩
      · skip
        obtain ⟨wy0, wy⟩ := dealt_why (K := K) er
        refine fun dd H6 s6 nd hd => ⟨_, dd, _, _, _, wy, rfl, rfl, hd, fun t nt => ?_⟩
        have s7 := s6.trans (same_upd (o := .tup [.non, .str r.1]) nt)
        have ht : upd H6 t (.tup [.non, .str r.1]) t = some (.tup [.non, .str r.1]) := upd_same
        have J7 := J5.same s7
        have toh7 := to_same toh5 s7
        have toe7 := to_same toe5 s7
        generalize upd H6 t (.tup [.non, .str r.1]) = H7 at ht J7 toh7 toe7 s7 ⊢
        refine ⟨t, _, rfl, .inl (.inl ht), rfl, _, _, rfl, _, _, rfl, rfl, ?_⟩
        refine ⟨_, rfl, _, rfl, rfl, _, rfl, ?_⟩
        have en : ¬ r.1 = "" := dealt_ne er
        rw [dealtW_err er, decide_eq_true (rfl : V.str r.1 = V.str r.1)]
        obtain ⟨p1, p2⟩ := pdOf_ok xns
        refine iteF ⟨_, rfl, _, rfl, pdOf xs, pdOf xs, to_dp toh7 xns, to_dp toe7 xns, p1, p1, _, rfl, ?_⟩
        rw [p2]
        refine iteF ⟨_, rfl, rfl, _, rfl, ?_⟩
        rw [decide_eq_false (show ¬ V.str r.1 = V.str "" from fun e => en (V.str.inj e))]
        exact iteF (q a H7 ss us rfl J7 (Nat.le_succ _) (fun h => h) (((kmD.trans (.same s34)).trans (.ext e5)).trans (.same s7)) fun _ h => .inl h)
      · skip
        refine ⟨_, rfl, _, rfl, (by show 2 ≤ sizeLine; decide), fun t nt => ?_⟩
        have em := em
        have nM56 : ∀ {b : Addr} {o : HO}, H5 b = some o → ¬ Mw f st wt a b → H6 b = some o := fun e n => Did6 _ _ e (fun h => n (.inr (.inr (.inr (.inl h))))) (fun h => n (.inr (.inr (.inr (.inr (.inl h)))))) fun h => n (.inr (.inr (.inr (.inr (.inr (.inl h))))))
        obtain ⟨xw, x1, _⟩ := J5.lg.webs
        obtain ⟨xd, x2, _⟩ := J5.lg.done
        have kt56 : Kt H5 H6 := fun b zs e => Did6 _ _ e (ne_of e J5.lg.obj (fun z => nomatch z)) (ne_of e x1 (fun z => nomatch z)) (ne_of e x2 (fun z => nomatch z))
        have to6 : ∀ {v : V}, ToAt H5 v xs → (xs.length ≠ 1 → ∃ D, v = .ref D ∧ ¬ Mw f st wt a D) → ToAt H6 v xs := fun h n => by
          rcases h with ⟨tt, x, ex, ev, h⟩ | ⟨n1, D, ts, ev, hD, R⟩
          · exact .inl ⟨tt, x, ex, ev, kt56 _ _ h⟩
          · obtain ⟨D', e', hD'⟩ := n n1
            rw [ev] at e'
            cases e'
            exact .inr ⟨n1, D, ts, ev, nM56 hD hD', R.keep kt56⟩
        have toh6 := to6 toh5 fun l => ⟨Dh, rfl, J3.newW (nh l)⟩
        have toe6 := to6 toe5 fun _ => ⟨te, rfl, J1.newW nte⟩
        obtain ⟨vs, h5, P5⟩ := J5.hst
        obtain ⟨ws, w5, Pw5⟩ := J5.hwt
        have lv : vs.length = ss.length + 1 := by rw [P5.length, rows_len]
        obtain ⟨⟨f1, f2, f3, f4, f5⟩, ⟨c1, c2, c3, c4, c5⟩, ⟨s1, s2, s3', s4⟩, ⟨w3, w4, w5'⟩⟩ := J.ap
        have h6 := Did6 _ _ h5 (J5.npf h5).symm s2 s3'
        have w6 := Did6 _ _ w5 (J5.npf w5).symm w3 w4
        have ut := same_upd (o := .tup [.ref q0, .str ""]) nt
        have ht : upd H6 t (.tup [.ref q0, .str ""]) t = some (.tup [.ref q0, .str ""]) := upd_same
        have h7 := ut _ _ h6
        have w7 := ut _ _ w6
        have toh7 := to_same toh6 ut
        have toe7 := to_same toe6 ut
        generalize upd H6 t (.tup [.ref q0, .str ""]) = H7 at ut ht h7 w7 toh7 toe7 ⊢
        refine ⟨t, _, rfl, .inl (.inl ht), rfl, _, _, rfl, _, _, rfl, rfl, ?_⟩
        refine ⟨_, rfl, _, rfl, rfl, _, rfl, ?_⟩
        rw [dealtW_ok em, decide_eq_true (rfl : V.str "" = V.str "")]
        obtain ⟨p1, p2⟩ := pdOf_ok xns
        refine iteF ⟨_, rfl, _, rfl, pdOf xs, pdOf xs, to_dp toh7 xns, to_dp toe7 xns, p1, p1, _, rfl, ?_⟩
        rw [p2]
        refine iteF ⟨_, rfl, rfl, _, rfl, iteT ?_⟩
        refine ⟨_, rfl, .inl ⟨rfl, _, .inl (.inl h7)⟩, _, rfl, _, rfl, (by show 2 ≤ sizeLine; decide), fun tn ntn => ⟨st, vs, _, rfl, rfl, same_upd ntn _ _ h7, small1000 (by omega), ?_⟩⟩
        have ut8 := same_upd (o := .tup [.ref te, .ref d']) ntn
        have hn : upd H7 tn (.tup [.ref te, .ref d']) tn = some (.tup [.ref te, .ref d']) := upd_same
        have h7' := ut8 _ _ h7
        have w7' := ut8 _ _ w7
        have u67 := ut.trans ut8
        generalize upd H7 tn (.tup [.ref te, .ref d']) = HN at ut8 hn h7' w7' u67 ⊢
        have w8 : upd HN st (.lst (vs ++ [.ref tn])) wt = some (.lst ws) := by
          rw [upd_ne s1.symm]
          exact w7'
        refine ⟨_, rfl, .inl ⟨rfl, _, .inl (.inl w8)⟩, wt, _, rfl, rfl, w8, ?_⟩
        have keep78 : ∀ {b : Addr} {o : HO}, HN b = some o → b ≠ st → b ≠ wt → (upd (upd HN st (.lst (vs ++ [.ref tn]))) wt (.lst [])) b = some o := fun e n1 n2 => by
          rw [upd_ne n2, upd_ne n1]
          exact e
        have h8 : (upd (upd HN st (.lst (vs ++ [.ref tn]))) wt (.lst [])) st = some (.lst (vs ++ [.ref tn])) := by
          rw [upd_ne s1]
          exact upd_same
        have w8 : (upd (upd HN st (.lst (vs ++ [.ref tn]))) wt (.lst [])) wt = some (.lst []) := upd_same
        generalize upd (upd HN st (.lst (vs ++ [.ref tn]))) wt (.lst []) = H8 at keep78 h8 w8 ⊢
        have keep68 : ∀ {b : Addr} {o : HO}, H6 b = some o → b ≠ st → b ≠ wt → H8 b = some o := fun e n1 n2 => keep78 (u67 _ _ e) n1 n2
        have hn8 := keep78 hn (ne_of hn h7' (fun z => nomatch z)) (ne_of hn w7' (fun z => nomatch z))
        have nte6 : te ≠ st ∧ te ≠ wt := ⟨fun z => J1.newW nte (.inr (.inl z)), fun z => J1.newW nte (.inr (.inr (.inl z)))⟩
        have nDh6 : Dh ≠ st ∧ Dh ≠ wt := ⟨fun z => J3.newW nDh (.inr (.inl z)), fun z => J3.newW nDh (.inr (.inr (.inl z)))⟩
        have hD8 := keep68 (nM56 hDh5 (J3.newW nDh)) nDh6.1 nDh6.2
        refine ⟨_, rfl, .ref te, "list", "list", rfl, .base (.lst (keep68 (nM56 hte5 (J1.newW nte)) nte6.1 nte6.2)), by decide, by decide, _, rfl, iteT ⟨_, rfl, .inl ⟨rfl, _, .inl (.inl hD8)⟩, Dh, _, rfl, rfl, hD8, ?_⟩⟩
        have kX : ∀ {b : Addr} {o : HO}, H8 b = some o → ¬ (b = Dh ∧ xs.length ≠ 1) → (upd H8 Dh (.lst [])) b = some o := fun e n => by
          rw [upd_ne (fun z => n ⟨z, nl⟩)]
          exact e
        generalize upd H8 Dh (.lst []) = H9 at kX ⊢
        have hh5 : xs.length ≠ 1 → ∃ zs, H5 Dh = some (.lst zs) := fun l => by
          rcases toh5 with ⟨tt, x, ex, _⟩ | ⟨_, D2, ts, ev, hD2, _⟩
          · exact absurd (by rw [ex]; rfl) l
          · cases ev
            exact ⟨ts, hD2⟩
        have Z : Fin8 f c st wt a { a with u := u' } (fun D => D = Dh ∧ xs.length ≠ 1) H3 H6 H9 := ⟨fun b o e tn n => Did6 _ _ (e5 _ _ (s34 _ _ e) tn) (fun h => n (.inl h)) (fun h => n (.inr (.inl h))) fun h => n (.inr (.inr (.inl h))), rfl, rfl, rfl, .inr (fun o e => Classical.byContradiction fun z => by
            have := e5 _ _ (s34 _ _ e) fun ps h => z ⟨ps, h⟩
            rw [nu] at this
            cases this), fun b o e n1 n2 nX => kX (keep68 e n1 n2) nX, fun D ⟨eD, l⟩ => by
          subst eD
          obtain ⟨zs, hz⟩ := hh5 l
          refine ⟨nh l, fun z => ?_, zs, nM56 hz (J3.newW (nh l))⟩
          have z : D = u' := z
          rw [z, nu] at hz
          cases hz⟩
        obtain ⟨⟨o9, u9, b9, X9, n91, n92, n93, n94⟩, ok9⟩ := nx m' em
        have B3 : StB (Mz O f st wt a) H3 (.ref te) d' (some xs, m') := ⟨o9, u9, b9, X9, ⟨J2.new n91, J2.new n92, J2.new n93, J2.new n94⟩, toe3, fun _ => ⟨te, rfl, J1.new nte⟩⟩
        have B9 : StB (Mz O f st wt { a with u := u' }) H9 (.ref te) d' (some xs, m') := B3.km Z.km.o J3.nt fun y h => h.elim (fun h => (Z.grow y h).imp .inl id) fun h => .inl (.inr h)
        have nXo : ∀ {b : Addr} {o : HO}, H3 b = some o → ¬ (b = Dh ∧ xs.length ≠ 1) := fun {b o} e ⟨h, l⟩ => by
          rw [h, nh l] at e
          cases e
        obtain ⟨vs3, h33, P3⟩ := J3.hst
        obtain ⟨ws3, w33, _⟩ := J3.hwt
        have h35 := e5 _ _ (s34 _ _ h33) (fun ps z => nomatch z)
        rw [h5] at h35
        cases h35
        have nl9 : ∀ {b : Addr} {o : HO}, H6 b = some o → (∀ zs, o ≠ .lst zs) → H9 b = some o := fun {b o} e n => kX (keep68 e (ne_of e h6 (n _)) (ne_of e w6 (n _))) fun ⟨h, l⟩ => by
          obtain ⟨zs, hz⟩ := hh5 l
          rw [h, nM56 hz (J3.newW (nh l))] at e
          cases e
          exact n zs rfl
        have hn9 : H9 tn = some (.tup [.ref te, .ref d']) := kX hn8 fun ⟨h, l⟩ => by
          obtain ⟨zs, hz⟩ := hh5 l
          have z := u67 _ _ (nM56 hz (J3.newW (nh l)))
          rw [← h, hn] at z
          cases z
        have A6' : LgAt K H6 { a with u := u' } (lgOf (ss ++ [(xs, m')]) []) := by
          rw [← doo_of ss us]
          exact A6
        have J9 : J58 (tb8 K) K O f c st wt { a with u := u' } H9 (ss ++ [(xs, m')]) [] := by
          refine J3.fin Z A6' ⟨vs ++ [.ref tn], kX h8 (nXo h33), ?_⟩ ⟨[], kX w8 (nXo w33), .nil⟩ (tabs_li J5.tab fun b o e nl ni => nl9 (Did6 _ _ e (ne_of e J5.lg.obj (ni _ _ _)) (ne_of e x1 (nl _)) (ne_of e x2 (nl _))) nl) (fun r hr => ?_) fun r hr => nomatch hr
          · rw [rows_snoc]
            exact Paired.snoc (J3.rows Z.km Z.grow P3) ⟨tn, .ref te, d', rfl, hn9, B9⟩
          · rcases List.mem_append.1 hr with h | h
            · exact J.gs r h
            · rw [List.mem_singleton.1 h]
              exact ⟨ok9, xne, xle, xns⟩
        have W9 : WebAt (CW K) H9 q0 m' := Kw.at ⟨fun b zs e => nl9 e (fun zs z => nomatch z), fun q dx l a b c e => nl9 e (fun zs z => nomatch z)⟩ W6
        obtain ⟨oo, uu, bb, XX, _⟩ := B9
        refine ⟨_, rfl, _, rfl, q0, d', m', rfl, W9, XX.at, fun H10 s10 => q { a with u := u' } H10 (ss ++ [(xs, m')]) [] rfl (J9.same s10) ?_ (fun h => by rw [List.reverse_nil, List.append_nil]; exact chn_snoc (chn_app h) em) ((kmD.trans Z.km).trans (.same s10)) fun y h => (Z.grow y h).elim .inl kmD.back⟩
        rw [List.length_append]
        show ss.length + 1 + 0 ≤ _
        omega
end
end Tw


set_option maxHeartbeats 4000000
namespace Tw
open PySem PySem.Spec PyProof.Rows L2
open LamX (ExtN Tabs)
/-! a log led back and forth through all its entries -/
theorem paired_take {α β : Type} {F : α → β → Prop} : ∀ {l : List α} {m : List β} (n : Nat), Paired F l m → Paired F (l.take n) (m.take n)
  | _, _, 0, _ => .nil
  | _, _, _ + 1, .nil => .nil
  | _, _, n + 1, .cons h t => .cons h (paired_take n t)
theorem paired_rev {α β : Type} {F : α → β → Prop} : ∀ {l : List α} {m : List β}, Paired F l m → Paired F l.reverse m.reverse
  | _, _, .nil => .nil
  | _, _, .cons h t => by
    rw [List.reverse_cons, List.reverse_cons]
    exact Paired.snoc (paired_rev t) h
theorem rows_take [L0] (ss : List (List Dd × Md)) (i : Nat) : rowsOf (ss.take i) = (rowsOf ss).take (i + 1) := by
  unfold rowsOf
  rw [List.take_succ_cons, List.map_take]
theorem take_snoc {α : Type} {l : List α} {i : Nat} {x : α} (h : l[i]? = some x) : l.take (i + 1) = l.take i ++ [x] := by
  rw [List.take_add_one, h]
  rfl
theorem drop_rev {α : Type} {l : List α} {i : Nat} {x : α} (h : l[i]? = some x) : (l.drop i).reverse = (l.drop (i + 1)).reverse ++ [x] := by
  obtain ⟨hi, e⟩ := List.getElem?_eq_some_iff.1 h
  rw [List.drop_eq_getElem_cons hi, e, List.reverse_cons]
theorem cut_takeV (xs : List V) {a : Int} {k : Nat} (h : a = k) : cutV xs none (some a) = xs.take k := by
  subst h
  unfold cutV
  rw [HT.sIx_none, HT.sIx_nat, List.drop_zero, Nat.sub_zero]
  rcases Nat.le_total k xs.length with hk | hk
  · rw [Nat.min_eq_left hk]
  · rw [Nat.min_eq_right hk, List.take_length, List.take_of_length_le hk]
/-- the lists of a log -/
def M3 (a : LgP) (y : Addr) : Prop := y = a.w ∨ y = a.d ∨ y = a.u
section
variable {K : PySem.W.Frag} {a : LgP} {H H2 : Hp} {L : Lg}
theorem LgAt.m3 (A : LgAt K H a L) {y : Addr} (h : M3 a y) : ∃ xs, H y = some (.lst xs) := by
  obtain ⟨xs, h3, _⟩ := A.webs
  obtain ⟨ds, h4, _⟩ := A.done
  obtain ⟨rs, h5, _⟩ := A.und
  rcases h with h | h | h <;> subst h
  · exact ⟨_, h3⟩
  · exact ⟨_, h4⟩
  · exact ⟨_, h5⟩
theorem LgAt.m3nt (A : LgAt K H a L) : ∀ y, M3 a y → ∀ zs, H y ≠ some (.tup zs) := fun y h zs e => by
  obtain ⟨xs, e2⟩ := A.m3 h
  rw [e] at e2
  cases e2
theorem Und.km (U : Und a H H2) : KmL (M3 a) H H2 := fun y o e _ n => U _ _ e (fun z => n (.inl z)) (fun z => n (.inr (.inl z))) fun z => n (.inr (.inr z))
end
/-- the log behind so many of all its entries, the law's rows beside it -/
structure B59 [L0] (Ts : List (Addr × Str)) (K : PySem.W.Frag) (a : LgP) (R X : Addr) (vs ws : List V) (ss tt : List (List Dd × Md)) (H : Hp) (i : Nat) : Prop where
  lg : LgAt K H a (lgOf (tt.take i) (tt.drop i).reverse)
  hR : H R = some (.lst vs)
  hX : H X = some (.lst ws)
  pR : Paired (StAt (M3 a) H) vs (rowsOf ss)
  pX : Paired (StAt (M3 a) H) ws ((tt.drop ss.length).reverse.map fun r => (some r.1, r.2))
  nR : ¬ M3 a R
  nX : ¬ M3 a X
  tab : Tabs Ts H
  gs : ∀ r ∈ tt, Gr8 r
  sub : ss = tt.take ss.length
  few : tt.length ≤ 100
section
variable {Ts : List (Addr × Str)} {K : PySem.W.Frag} {a : LgP} {R X : Addr} {vs ws : List V} {ss tt : List (List Dd × Md)} {H H2 : Hp} {i : Nat}
theorem B59.km [L0] (B : B59 Ts K a R X vs ws ss tt H i) (k : KmL (M3 a) H H2) {j : Nat} (A : LgAt K H2 a (lgOf (tt.take j) (tt.drop j).reverse)) (tab : Tabs Ts H2) : B59 Ts K a R X vs ws ss tt H2 j :=
  ⟨A, k _ _ B.hR (fun ps z => nomatch z) B.nR, k _ _ B.hX (fun ps z => nomatch z) B.nX, Paired.mono (fun _ _ h => h.km k B.lg.m3nt fun y h => .inl h) B.pR, Paired.mono (fun _ _ h => h.km k B.lg.m3nt fun y h => .inl h) B.pX, B.nR, B.nX, tab, B.gs, B.sub, B.few⟩
theorem B59.same [L0] (B : B59 Ts K a R X vs ws ss tt H i) (s : Same H H2) : B59 Ts K a R X vs ws ss tt H2 i := B.km (fun y o e _ _ => s _ _ e) (B.lg.same s) (tabs_same B.tab s)
theorem B59.ext [L0] (B : B59 Ts K a R X vs ws ss tt H i) (s : ExtN H H2) (t : Tabs Ts H2) : B59 Ts K a R X vs ws ss tt H2 i := by
  refine B.km (fun y o e n _ => s _ _ e n) (B.lg.keep ⟨fun z zs e => s _ _ e (fun ps z => nomatch z), fun q dx l a b c e => s _ _ e (fun ps z => nomatch z)⟩ (fun o e => ?_) fun x xs _ e => s _ _ e (fun ps z => nomatch z)) t
  have h := B.lg.obj
  rw [e] at h
  cases h
  exact s _ _ e (fun ps z => nomatch z)
theorem B59.tabU [L0] (B : B59 Ts K a R X vs ws ss tt H i) (U : Und a H H2) : Tabs Ts H2 := tabs_li B.tab fun b o e n _ => U _ _ e (fun z => by
    obtain ⟨xs, h⟩ := B.lg.m3 (.inl rfl)
    rw [z, h] at e
    cases e
    exact n _ rfl) (fun z => by
    obtain ⟨xs, h⟩ := B.lg.m3 (.inr (.inl rfl))
    rw [z, h] at e
    cases e
    exact n _ rfl) fun z => by
    obtain ⟨xs, h⟩ := B.lg.m3 (.inr (.inr rfl))
    rw [z, h] at e
    cases e
    exact n _ rfl
theorem B59.ne [L0] (B : B59 Ts K a R X vs ws ss tt H i) : ∀ xs ∈ (lgOf (tt.take i) (tt.drop i).reverse).done, xs ≠ [] := fun xs hx => by
  obtain ⟨r, hr, rfl⟩ := List.mem_map.1 hx
  exact (B.gs r (List.mem_of_mem_take hr)).ne
theorem B59.ld [L0] (B : B59 Ts K a R X vs ws ss tt H i) : (lgOf (tt.take i) (tt.drop i).reverse).done.length ≤ 100 := by
  show ((tt.take i).map (·.1)).length ≤ 100
  rw [List.length_map, List.length_take]
  have := B.few
  omega
theorem B59.lu [L0] (B : B59 Ts K a R X vs ws ss tt H i) : (lgOf (tt.take i) (tt.drop i).reverse).und.length ≤ 100 := by
  show (tt.drop i).reverse.length ≤ 100
  rw [List.length_reverse, List.length_drop]
  have := B.few
  omega
/-- one entry is taken back -/
theorem B59.undo [L0] (B : B59 Ts K a R X vs ws ss tt H (i + 1)) {r : List Dd × Md} (hr : tt[i]? = some r) {ds : List (List Dd)} {xs : List Dd} {ms : List Md} {m : Md} (e1 : (lgOf (tt.take (i + 1)) (tt.drop (i + 1)).reverse).done = ds ++ [xs]) (e2 : (lgOf (tt.take (i + 1)) (tt.drop (i + 1)).reverse).webs = ms ++ [m]) : xs = r.1 ∧ ∀ H2, Und a H H2 → LgAt K H2 a ⟨ms, ds, (lgOf (tt.take (i + 1)) (tt.drop (i + 1)).reverse).und ++ [(xs, m)]⟩ → B59 Ts K a R X vs ws ss tt H2 i := by
  obtain ⟨s0, es, ed, em⟩ := snoc_of e1 e2
  rw [take_snoc hr] at es
  obtain ⟨es1, es2⟩ := List.append_inj' es rfl
  have er : r = (xs, m) := (List.cons.inj es2).1
  subst es1
  refine ⟨by rw [er], fun H2 U A => B.km U.km ?_ (B.tabU U)⟩
  have : (⟨ms, ds, (lgOf (tt.take (i + 1)) (tt.drop (i + 1)).reverse).und ++ [(xs, m)]⟩ : Lg) = lgOf (tt.take i) (tt.drop i).reverse := by
    rw [ed, em, drop_rev hr, er]
    rfl
  rw [this] at A
  exact A
/-- one is done again -/
theorem B59.redo [L0] (B : B59 Ts K a R X vs ws ss tt H i) {r : List Dd × Md} (hr : tt[i]? = some r) {us : List (List Dd × Md)} {xs : List Dd} {m : Md} (e : (lgOf (tt.take i) (tt.drop i).reverse).und = us ++ [(xs, m)]) : xs = r.1 ∧ ∀ H2, Und a H H2 → LgAt K H2 a ⟨(lgOf (tt.take i) (tt.drop i).reverse).webs ++ [m], (lgOf (tt.take i) (tt.drop i).reverse).done ++ [xs], us⟩ → B59 Ts K a R X vs ws ss tt H2 (i + 1) := by
  have e : (tt.drop i).reverse = us ++ [(xs, m)] := e
  rw [drop_rev hr] at e
  obtain ⟨eu, ex⟩ := List.append_inj' e rfl
  have er : r = (xs, m) := (List.cons.inj ex).1
  subst eu
  refine ⟨by rw [er], fun H2 U A => B.km U.km ?_ (B.tabU U)⟩
  have : (⟨(lgOf (tt.take i) (tt.drop i).reverse).webs ++ [m], (lgOf (tt.take i) (tt.drop i).reverse).done ++ [xs], (tt.drop (i + 1)).reverse⟩ : Lg) = lgOf (tt.take (i + 1)) (tt.drop (i + 1)).reverse := by
    rw [take_snoc hr, er]
    unfold lgOf
    rw [rows_snoc, List.map_append, List.map_append]
    rfl
  rw [this] at A
  exact A
/-- a slice of the rows beside the log -/
theorem B59.s [L0] (B : B59 Ts K a R X vs ws ss tt H i) (hi : i ≤ ss.length) {st : Addr} (hs : H st = some (.lst (vs.take (i + 1)))) : S58 K (M3 a) st a H (tt.take i) (tt.drop i).reverse := by
  refine ⟨B.lg, ⟨_, hs, ?_⟩, fun r hr => B.gs r (List.mem_of_mem_take hr)⟩
  have e : tt.take i = ss.take i := by
    rw [B.sub, List.take_take, Nat.min_eq_left hi]
  rw [e, rows_take]
  exact paired_take _ B.pR
end
end Tw

set_option maxHeartbeats 4000000
/-! zip of a tuple and a list, by the library's draws of any kinds -/
namespace Tw
open PySem PySem.Spec PyProof.Rows L2
abbrev IsZ (h : Heap) (z TI TO : Addr) (u : Value) : Prop := IsZip h z TI TO u
/-- the cells of such a zip as they stand at turn i -/
structure Zm (a b z TI TO i1 i2 : Addr) (i : Nat) (h : Heap) : Prop where
  zip : IsZ h z TI TO .none
  src : IsTupOf2 h TI (.ref i1) (.ref i2)
  out : ∃ x y, IsTupOf2 h TO x y
  one : h.IsTupleIter i1 a i
  two : h.IsListIter i2 b i
/-- the items of both, in new pairs -/
def ItM (K : PySem.W.Frag) (a b : Addr) : It where
  go := fun i H => ∃ (xs ys : List V) (x y : V), SqT K H a xs ∧ SqL K H b ys ∧ xs[i]? = some x ∧ ys[i]? = some y
  yld := fun i H v H' => ∃ T x y, v = .ref T ∧ H T = none ∧ H' = upd H T (.tup [x, y]) ∧ (∀ xs, SqT K H a xs → xs[i]? = some x) ∧ ∀ ys, SqL K H b ys → ys[i]? = some y
  stop := fun i H => ∃ xs ys : List V, SqT K H a xs ∧ SqL K H b ys ∧ xs.length = i ∧ ys.length = i
theorem walk_zipM {K : PySem.W.Frag} {a b : Addr} {xs ys : List V} {n : Nat} (h1 : xs.length = n) (h2 : ys.length = n) : Walk (ItM K a b) n (fun H => SqT K H a xs ∧ SqL K H b ys) (YPair (fun i => xs[i]?) (fun i => ys[i]?)) := by
  refine ⟨fun i _ hi q => ?_, fun _ q => ⟨xs, ys, q.1, q.2, h1, h2⟩, fun i H v H' _ q y => ?_⟩
  · exact ⟨xs, ys, _, _, q.1, q.2, List.getElem?_eq_getElem (by omega), List.getElem?_eq_getElem (by omega)⟩
  · obtain ⟨T, x, z, e1, e2, e3, e4, e5⟩ := y
    exact ⟨T, x, z, e1, e2, e3, e4 xs q.1, e5 ys q.2⟩
theorem five {α : Type} {P : α → Prop} {a b c d e : α} (h1 : P a) (h2 : P b) (h3 : P c) (h4 : P d) (h5 : P e) : ∀ x ∈ [a, b, c, d, e], P x := by
  intro x hx
  simp only [List.mem_cons, List.not_mem_nil, or_false] at hx
  rcases hx with rfl | rfl | rfl | rfl | rfl <;> assumption
theorem turn_m {P : Program} {w : World} {K : PySem.W.Frag} {elts : List Expr} {kk : Nat} {tpos : Pos} {a b z TI TO i1 i2 : Addr} (D : ZipSep2 z TI TO i1 i2 [i1, a] [i2, b]) (na : a ≠ i1) (nb : b ≠ i2) :
    Turn P w K (.Tuple elts kk tpos) (ItM K a b) [z, TI, TO, i1, i2] z (Zm a b z TI TO i1 i2) where
  mem := List.mem_cons_self
  obj := fun i h st => by
    obtain ⟨x, y, ho⟩ := st.out
    obtain ⟨o1, e1, _, d1⟩ := st.one
    obtain ⟨o2, e2, _, d2⟩ := st.two
    exact five ⟨_, st.zip, fun v q => nomatch q⟩ ⟨_, st.src, fun v q => nomatch q⟩ ⟨_, ho, fun v q => nomatch q⟩ ⟨o1, e1, fun v q => by rw [d1] at q; cases q⟩ ⟨o2, e2, fun v q => by rw [d2] at q; cases q⟩
  keep := fun i h h' st k => by
    obtain ⟨x, y, ho⟩ := st.out
    exact ⟨k z (by simp) _ st.zip, k TI (by simp) _ st.src, ⟨x, y, k TO (by simp) _ ho⟩, st.one.at fun o q => k i1 (by simp) o q, st.two.at fun o q => k i2 (by simp) o q⟩
  item := by
    intro X hP hw hK hc i pins s σ H E I hf st hg
    subst hP hw hK
    obtain ⟨xs, ys, x, y, qx, qy, hx, hy⟩ := hg
    obtain ⟨x0, y0, ho⟩ := st.out
    obtain ⟨its, rv, p, _⟩ := I.tuple qx
    obtain ⟨its2, rv2, p2, _⟩ := I.list qy
    have hh : X.A.in1.handled = none := I.ok.hd hc
    obtain ⟨u, hu, ru⟩ := rv.get hx
    obtain ⟨u2, hu2, ru2⟩ := rv2.get hy
    have l1 : i < its.toArray.size := by
      have := (List.getElem?_eq_some_iff.1 hu).1
      simpa using this
    have l2 : i < its2.toArray.size := by
      have := (List.getElem?_eq_some_iff.1 hu2).1
      simpa using this
    have zl : z < s.heap.objs.size := Heap.lt_size st.zip
    refine wpAny_pyNext_zipD2_item D (Draws.tuple hh i1 a na its.toArray) (Draws.list hh i2 b nb its2.toArray) st.zip st.src ho ⟨st.one, p⟩ ⟨st.two, p2.isList⟩ l1 l2 fun v1 v2 h' tk e1 e2 z' TO' st1 st2 hT hs hk => ?_
    have e1 : its.toArray[i]? = some v1 := e1
    have e2 : its2.toArray[i]? = some v2 := e2
    have e1 : v1 = u := by
      rw [show its.toArray[i]? = some u by simpa using hu] at e1
      exact (Option.some.inj e1).symm
    have e2 : v2 = u2 := by
      rw [show its2.toArray[i]? = some u2 by simpa using hu2] at e2
      exact (Option.some.inj e2).symm
    subst e1 e2
    refine ⟨_, rfl, wpAny_letOwnedTupleGo_zip (s := { s with heap := h', toks := tk }) z' fun h'' z'' sb => ?_⟩
    have hT2 : h''.get? s.heap.objs.size = some { cls := .type "tuple", data := .seq #[v1, v2] } := (sb.2 _ (Nat.ne_of_gt zl)).trans hT
    have new : ObjOk X.prog X.w (upd H s.heap.objs.size (.tup [x, y])) h'' s.heap.objs.size (.tup [x, y]) :=
      ⟨by show 2 ≤ sizeLine; decide, [v1, v2], .cons ru (.cons ru2 .nil), ⟨_, hT2, rfl, _, rfl⟩⟩
    have I1 : Inv X pins σ (upd H s.heap.objs.size (.tup [x, y])) { s with heap := h'', toks := tk } :=
      I.turnedNew (t' := tk) (ch := [z, TI, TO, i1, i2]) (fun c o hb q => by
        simp only [List.mem_cons, List.not_mem_nil, or_false, not_or] at hb
        exact (sb.2 c hb.1).trans (hk c o hb.1 hb.2.2.1 hb.2.2.2.1 hb.2.2.2.2 q)) hf (Nat.le_refl _) new
    refine ⟨.ref s.heap.objs.size, _, I1, rfl, ⟨_, x, y, rfl, I.hok.fresh (Nat.le_refl _), rfl, fun l hl => by rw [I.tuple_inj hl qx]; exact hx, fun l hl => by rw [I.list_inj hl qy]; exact hy⟩, ⟨z'', ?_, ⟨v1, v2, ?_⟩, ?_, ?_⟩, ?_⟩
    · exact (sb.2 _ D.TIz).trans (hk _ _ D.TIz D.TITO D.TIi1 D.TIi2 st.src)
    · exact (sb.2 _ D.TOz).trans TO'
    · exact st1.1.at fun o q => (sb.2 _ D.zi1.symm).trans q
    · exact st2.1.at fun o q => (sb.2 _ D.zi2.symm).trans q
    · obtain ⟨o1, q1, _⟩ := st.one
      obtain ⟨o2, q2, _⟩ := st.two
      have off : ∀ c ∈ [z, TI, TO, i1, i2], c < s.heap.objs.size := five zl (Heap.lt_size st.src) (Heap.lt_size ho) (Heap.lt_size q1) (Heap.lt_size q2)
      intro c hc
      rw [upd_ne (Nat.ne_of_lt (off c hc))]
      exact (hf c hc).1
  done := by
    intro X hP hw hK hc i pins s σ H E I hf st hg
    subst hP hw hK
    obtain ⟨xs, ys, qx, qy, e1, e2⟩ := hg
    obtain ⟨x0, y0, ho⟩ := st.out
    obtain ⟨its, rv, p, _⟩ := I.tuple qx
    obtain ⟨its2, rv2, p2, _⟩ := I.list qy
    have hh : X.A.in1.handled = none := I.ok.hd hc
    have l1 : i = its.toArray.size := by
      have := rv.length
      simp only [List.size_toArray]
      omega
    have l2 : i = its2.toArray.size := by
      have := rv2.length
      simp only [List.size_toArray]
      omega
    refine wpAny_pyNext_zipD2_end D (Draws.tuple hh i1 a na its.toArray) (Draws.list hh i2 b nb its2.toArray) st.zip st.src ho ⟨st.one, p⟩ ⟨st.two, p2.isList⟩ (Nat.le_of_eq l1) (Nat.le_of_eq l2) (.inl l1) fun h' tk hk => ⟨rfl, I.turnedL (t' := tk) (ch := [z, TI, TO, i1, i2]) (fun c o hb q => ?_) hf⟩
    simp only [List.mem_cons, List.not_mem_nil, or_false, not_or] at hb
    exact hk c o hb.1 hb.2.2.1 hb.2.2.2.1 hb.2.2.2.2 q
  self := fun A i s Q E st h => wpAny_pyIter_zip st.zip h
def iZipM (K : PySem.W.Frag) (ta : TA) : TI := fun σ H R => ta σ H fun vs H1 => ∃ a b xs ys, vs = [.ref a, .ref b] ∧ SqT K H1 a xs ∧ SqL K H1 b ys ∧ R (ItM K a b) H1
theorem pi_zipM {X : Cx} {e e2 : Expr} {ta : TA} {p pos tpos : Pos} {elts : List Expr} {kk : Nat} (hg : Gl X "zip") (hm : X.mg "zip" = none) (ha : PA X [e, e2] ta)
    (hs : starEach [e, e2] X.env = (false, eval e X.env) :: starEach [e2] X.env := by rfl) (hpl : (backTo pos (starEach [e2] X.env)).any (·.1) = false := by rfl) :
    PI X (.Tuple elts kk tpos) (.Call (.Name "zip" p) [e, e2] [] pos) (iZipM X.K ta) := by
  refine ⟨fun pins s σ H R I h => ?_⟩
  refine Call_ (ld_blt I hg hm PyProof.Rows.boot_zip (PyProof.Rows.callWith_type1 (thn (ha.run pos pins s σ H _ I h) fun us s1 ⟨vs, H1, I1, r1, q1⟩ => ?_) hs hpl))
  obtain ⟨a, b, xs, ys, rfl, qx, qy, q⟩ := q1
  cases r1 with
  | cons r rr =>
  cases rr with
  | cons r' rr =>
  cases rr
  cases r
  cases r'
  obtain ⟨its, rv, p1, _⟩ := I1.tuple qx
  obtain ⟨its2, rv2, p2, _⟩ := I1.list qy
  obtain ⟨o1, ho1, _⟩ := id p1
  have la : a < s1.heap.objs.size := Heap.lt_size ho1
  have lb : b < s1.heap.objs.size := p2.lt
  refine zip_begins2 (begins_tuple a its.toArray) (begins_list b its2.toArray) p1 p2.isList fun h' hz hTI hTO h1 h2 hsz hk => wpAny_pyIter_zip hz ?_
  have I2 : Inv X pins σ H1 { s1 with heap := h' } := I1.kept (t' := s1.toks) hk
  have fr : ∀ k : Nat, FpOk X pins H1 (s1.heap.objs.size + k) := fun k => I1.fpOk (Nat.le_add_right _ _) (I1.hok.fresh (Nat.le_add_right _ _))
  exact ⟨s1.heap.objs.size + 4, [s1.heap.objs.size + 4, s1.heap.objs.size + 2, s1.heap.objs.size + 3, s1.heap.objs.size, s1.heap.objs.size + 1], _, _, H1, rfl, I2,
    turn_m (zip_sep2 (fun c hc => by rw [List.mem_singleton.1 hc]; exact la) (fun c hc => by rw [List.mem_singleton.1 hc]; exact lb)) (Nat.ne_of_lt la) (Nat.ne_of_lt (Nat.lt_succ_of_lt lb)), ⟨hz, hTI, ⟨_, _, hTO⟩, ⟨_, h1, rfl, rfl⟩, ⟨_, h2, rfl, rfl⟩⟩, five (fr 4) (fr 2) (fr 3) (fr 0) (fr 1), q⟩
end Tw

set_option maxHeartbeats 4000000
/-! numbers, names and None as they stand in texts: the texts by themselves -/
namespace Tw
open PySem PySem.Spec PyProof.Rows L2
/-- the signs of a whole number -/
def itL (i : Int) : List Nat := if i < 0 then 45 :: TL.numL i.natAbs else TL.numL i.natAbs
def numS (i : Int) : Str := Str.ofString (toString i)
theorem tl_numS (i : Int) : TL.tl (numS i) = itL i := by
  cases i with
  | ofNat n =>
    show TL.tl (Str.ofString (toString ((n : Nat) : Int))) = _
    rw [TL.tl_num]
    rfl
  | negSucc m =>
    have e : toString (Int.negSucc m) = "-" ++ Nat.repr (m + 1) := rfl
    unfold numS
    rw [e, TL.tl_ofString, String.toList_append, List.map_append]
    have e2 : (Nat.repr (m + 1)).toList = Nat.toDigits 10 (m + 1) := by
      simp [Nat.repr]
    rw [e2]
    unfold itL
    rw [if_pos (Int.negSucc_lt_zero m)]
    rfl
theorem numL_head {n : Nat} (h : 0 < n) : ∀ c r, TL.numL n = c :: r → c ≠ 48 := by
  induction n using Nat.strongRecOn with
  | _ n ih =>
    intro c r e
    by_cases l : n < 10
    · rw [TL.numL_lt l] at e
      have := (List.cons.inj e).1
      omega
    · rw [TL.numL_step (by omega)] at e
      cases q : TL.numL (n / 10) with
      | nil => exact absurd q (TL.numL_ne _)
      | cons d s =>
        rw [q] at e
        have h1 := (List.cons.inj e).1
        have h2 := ih (n / 10) (by omega) (by omega) d s q
        rw [← h1]
        exact h2
theorem mk_tlS (x : Str) : (⟨(TL.tl x).toArray⟩ : Str) = x := TL.mk_tl x
theorem sub_minus (r : List Nat) : Builtin.Str.subAt ⟨(45 :: r).toArray⟩ "-" 0 = true := by
  unfold Builtin.Str.subAt
  have e : ("-" : Str) = ⟨#[45]⟩ := by decide +kernel
  rw [e]
  simp [Str.length]
theorem rmp_minus {x : Str} {r : List Nat} (h : TL.tl x = 45 :: r) : Txt.removeprefix x "-" = ⟨r.toArray⟩ := by
  have e : ("-" : Str) = ⟨#[45]⟩ := by decide +kernel
  have ex : x = ⟨(45 :: r).toArray⟩ := by rw [← h, mk_tlS]
  subst ex
  rw [StrLaws.removeprefix_eq, sub_minus, e]
  simp [Str.length]
theorem rmp_none {x : Str} (h : ∀ r, TL.tl x ≠ 45 :: r) : Txt.removeprefix x "-" = x := by
  rw [StrLaws.removeprefix_eq]
  refine if_neg fun z => ?_
  rw [Bool.and_eq_true] at z
  have e : ("-" : Str) = ⟨#[45]⟩ := by decide +kernel
  have ex : x = ⟨(TL.tl x).toArray⟩ := (mk_tlS x).symm
  cases q : TL.tl x with
  | nil =>
    rw [q] at ex
    subst ex
    have z1 := z.1
    rw [e] at z1
    exact absurd z1 (by simp [Str.length])
  | cons c r =>
    rw [q] at ex
    have z2 := z.2
    rw [ex, e] at z2
    unfold Builtin.Str.subAt at z2
    have : c = 45 := by
      simpa [Str.length] using z2
    exact h r (by rw [q, this])
theorem numL_len9 {n : Nat} (h : n < 1000000000) : 1 ≤ (TL.numL n).length ∧ (TL.numL n).length ≤ 9 := by
  refine ⟨?_, TL.numL_len (by decide) h⟩
  cases q : TL.numL n with
  | nil => exact absurd q (TL.numL_ne _)
  | cons c r => exact Nat.succ_pos _
/-- the figures of a number's word -/
theorem figures_of {i : Int} : Txt.removeprefix (numS i) "-" = ⟨(TL.numL i.natAbs).toArray⟩ := by
  by_cases h : i < 0
  · exact rmp_minus (by rw [tl_numS, itL, if_pos h])
  · have e : TL.tl (numS i) = TL.numL i.natAbs := by rw [tl_numS, itL, if_neg h]
    rw [rmp_none fun r z => ?_, ← e, mk_tlS]
    rw [e] at z
    have := TL.numL_digits i.natAbs 45 (by rw [z]; exact List.mem_cons_self)
    omega
theorem int_numS {i : Int} (h : i.natAbs < 1000000000) : intText? (numS i) = some i := by
  by_cases hi : i < 0
  · have e : (numS i).cps.toList = 45 :: TL.numL i.natAbs := by
      have := tl_numS i
      rw [itL, if_pos hi] at this
      exact this
    have := PySem.intText_neg e (TL.numL_digits _) (TL.numL_ne _) (by rw [TL.len_tl, tl_numS, itL, if_pos hi]; have := (numL_len9 h).2; show (TL.numL i.natAbs).length + 1 ≤ 4300; omega)
    rw [this, TL.numL_val]
    congr 1
    omega
  · have := TL.int_num (n := i.natAbs) (by have := (numL_len9 h).2; omega)
    have e : ((i.natAbs : Nat) : Int) = i := by omega
    rw [e] at this
    exact this
theorem not_minus0 {i : Int} : ¬ numS i = "-0" := fun h => by
  have e : TL.tl ("-0" : Str) = [45, 48] := by decide +kernel
  have h2 := congrArg TL.tl h
  rw [e, tl_numS] at h2
  by_cases hi : i < 0
  · rw [itL, if_pos hi] at h2
    exact numL_head (show 0 < i.natAbs by omega) _ _ (List.cons.inj h2).2 rfl
  · rw [itL, if_neg hi] at h2
    have := TL.numL_digits i.natAbs 45 (by rw [h2]; exact List.mem_cons_self)
    omega
/-- the word of a thing -/
def wrt : V → Str
  | .int i => numS i
  | .str z => z
  | _ => "-"
def Sml (v : V) : Prop := v = .non ∨ (∃ i : Int, v = .int i ∧ i.natAbs < 1000000000) ∨ ∃ z, v = .str z ∧ Nm z
theorem nm_signs {z : Str} (h : Nm z) : ∀ c ∈ TL.tl z, 97 ≤ c ∧ c ≤ 122 := fun c hc => by
  have := h.2.2 c hc
  revert this
  have : ∀ c ∈ letters.cps.toList, 97 ≤ c ∧ c ≤ 122 := by decide +kernel
  exact this c
theorem wrt_signs {v : V} (h : Sml v) : ∀ c ∈ TL.tl (wrt v), c = 45 ∨ (48 ≤ c ∧ c ≤ 57) ∨ (97 ≤ c ∧ c ≤ 122) := fun c hc => by
  rcases h with rfl | ⟨i, rfl, _⟩ | ⟨z, rfl, n⟩
  · have e : TL.tl ("-" : Str) = [45] := by decide +kernel
    have hc : c ∈ TL.tl ("-" : Str) := hc
    rw [e] at hc
    exact .inl (List.mem_singleton.1 hc)
  · have hc : c ∈ TL.tl (numS i) := hc
    rw [tl_numS, itL] at hc
    by_cases hi : i < 0
    · rw [if_pos hi] at hc
      rcases List.mem_cons.1 hc with e | e
      · exact .inl e
      · exact .inr (.inl (TL.numL_digits _ c e))
    · rw [if_neg hi] at hc
      exact .inr (.inl (TL.numL_digits _ c hc))
  · exact .inr (.inr (nm_signs n c hc))
theorem wrt_len {v : V} (h : Sml v) : (wrt v).length ≤ 10 := by
  rcases h with rfl | ⟨i, rfl, l⟩ | ⟨z, rfl, n⟩
  · show ("-" : Str).length ≤ 10
    decide +kernel
  · show (numS i).length ≤ 10
    rw [TL.len_tl, tl_numS, itL]
    have := (numL_len9 l).2
    split
    · show (TL.numL i.natAbs).length + 1 ≤ 10
      omega
    · omega
  · exact Nat.le_trans n.2.1 (by decide)
/-- joined words, split again -/
theorem words_back {vs : List V} (h : ∀ v ∈ vs, Sml v) (ne : vs ≠ []) : Txt.split (Txt.join " " (vs.map wrt)) " " = vs.map wrt := by
  refine TL.split_join (y := " ") (s := 32) (S := []) (by decide +kernel) (by decide +kernel) (fun e => ne (List.map_eq_nil_iff.1 e)) fun p hp => ?_
  obtain ⟨v, hv, rfl⟩ := List.mem_map.1 hp
  intro hc
  have := wrt_signs (h v hv) 32 hc
  omega
theorem join_len (y : Str) : ∀ ps : List Str, (∀ p ∈ ps, p.length ≤ 10) → (Txt.join y ps).length ≤ ps.length * (10 + y.length)
  | [], _ => by
    rw [TL.join_eq, TL.len_tl, TL.tl_join]
    exact Nat.zero_le _
  | [p], h => by
    have := h p List.mem_cons_self
    rw [TL.join_eq]
    show p.length ≤ 1 * (10 + y.length)
    omega
  | p :: q :: r, h => by
    have h1 := h p List.mem_cons_self
    have h2 := join_len y (q :: r) fun z hz => h z (List.mem_cons_of_mem _ hz)
    rw [TL.join_eq] at h2 ⊢
    have e : (Str.join y (p :: q :: r)).length = p.length + (y.length + (Str.join y (q :: r)).length) := by
      rw [TL.len_tl, TL.tl_join]
      show (TL.tl p ++ (TL.tl y ++ TL.joinL (TL.tl y) (((q :: r).map TL.tl)))).length = _
      rw [List.length_append, List.length_append, ← TL.tl_join, ← TL.len_tl, ← TL.len_tl, ← TL.len_tl]
    rw [e]
    have : (p :: q :: r).length * (10 + y.length) = (q :: r).length * (10 + y.length) + (10 + y.length) := by
      rw [List.length_cons, Nat.succ_mul]
    omega
theorem join_mem (y : Str) : ∀ (ps : List Str) (c : Nat), c ∈ TL.tl (Txt.join y ps) → c ∈ TL.tl y ∨ ∃ p ∈ ps, c ∈ TL.tl p
  | [], c, h => by
    rw [TL.join_eq, TL.tl_join] at h
    exact absurd h List.not_mem_nil
  | [p], c, h => by
    rw [TL.join_eq, TL.tl_join] at h
    exact .inr ⟨p, List.mem_cons_self, h⟩
  | p :: q :: r, c, h => by
    rw [TL.join_eq, TL.tl_join] at h
    have h : c ∈ TL.tl p ++ (TL.tl y ++ TL.joinL (TL.tl y) (((q :: r).map TL.tl))) := h
    rcases List.mem_append.1 h with h | h
    · exact .inr ⟨p, List.mem_cons_self, h⟩
    · rcases List.mem_append.1 h with h | h
      · exact .inl h
      · rw [← TL.tl_join, ← TL.join_eq] at h
        exact (join_mem y (q :: r) c h).imp id fun ⟨z, hz, hc⟩ => ⟨z, List.mem_cons_of_mem _ hz, hc⟩
end Tw

set_option maxHeartbeats 4000000
/-! enumerate of a list from a start that is told by its name -/
namespace Tw
open PySem PySem.Spec PyProof.Rows L2
/-- the cells of such a walk at turn i, counting from c -/
structure Ec (a e it : Addr) (c : Int) (i : Nat) (h : Heap) : Prop where
  en : ∃ old, IsEnum h e it (c + (i : Int)) old
  li : h.IsListIter it a i
/-- the items of a list, each with its number in a new pair -/
def ItC (K : PySem.W.Frag) (c : Int) (a : Addr) : It where
  go := fun i H => ∃ (xs : List V) (x : V), SqL K H a xs ∧ xs[i]? = some x
  yld := fun i H v H' => ∃ T x, v = .ref T ∧ H T = none ∧ H' = upd H T (.tup [.int (c + (i : Int)), x]) ∧ ∀ xs, SqL K H a xs → xs[i]? = some x
  stop := fun i H => ∃ xs : List V, SqL K H a xs ∧ xs.length = i
theorem walk_enumC {K : PySem.W.Frag} {c : Int} {a : Addr} {xs : List V} : Walk (ItC K c a) xs.length (fun H => SqL K H a xs) (YPair (fun i => some (.int (c + (i : Int)))) (fun i => xs[i]?)) := by
  refine ⟨fun i _ hi q => ⟨xs, _, q, List.getElem?_eq_getElem hi⟩, fun _ q => ⟨xs, q, rfl⟩, fun i H v H' _ q y => ?_⟩
  obtain ⟨T, x, e1, e2, e3, e4⟩ := y
  exact ⟨T, _, x, e1, e2, e3, rfl, e4 xs q⟩
theorem two_of {α : Type} {P : α → Prop} {a b : α} (h1 : P a) (h2 : P b) : ∀ x ∈ [a, b], P x := by
  intro x hx
  simp only [List.mem_cons, List.not_mem_nil, or_false] at hx
  rcases hx with rfl | rfl <;> assumption
theorem turn_ec {P : Program} {w : World} {K : PySem.W.Frag} {elts : List Expr} {kk : Nat} {tpos : Pos} {a e it : Addr} {c : Int} (n1 : e ≠ it) (n2 : a ≠ it) (n3 : a ≠ e) :
    Turn P w K (.Tuple elts kk tpos) (ItC K c a) [e, it] e (Ec a e it c) where
  mem := List.mem_cons_self
  obj := fun i h st => by
    obtain ⟨old, he⟩ := st.en
    obtain ⟨o, e1, _, d1⟩ := st.li
    exact two_of ⟨_, he, fun v q => nomatch q⟩ ⟨o, e1, fun v q => by rw [d1] at q; cases q⟩
  keep := fun i h h' st k => by
    obtain ⟨old, he⟩ := st.en
    exact ⟨⟨old, k e (by simp) _ he⟩, st.li.at fun o q => k it (by simp) o q⟩
  item := by
    intro X hP hw hK hc i pins s σ H E I hf st hg
    subst hP hw hK
    obtain ⟨xs, x, qx, hx⟩ := hg
    obtain ⟨old, he⟩ := st.en
    obtain ⟨its, rv, p, _⟩ := I.list qx
    have hh : X.A.in1.handled = none := I.ok.hd hc
    obtain ⟨u, hu, ru⟩ := rv.get hx
    have l1 : i < its.toArray.size := by
      have := (List.getElem?_eq_some_iff.1 hu).1
      simpa using this
    have el : e < s.heap.objs.size := Heap.lt_size he
    refine wpAny_pyNext_enum_itemC (Draws.list hh it a n2 its.toArray) he ⟨st.li, p.isList⟩ l1 n1 (by simp [n1, Ne.symm n3]) fun v h' tk e1 ho st1 hT hs hk => ?_
    have e1 : its.toArray[i]? = some v := e1
    have e1 : v = u := by
      rw [show its.toArray[i]? = some u by simpa using hu] at e1
      exact (Option.some.inj e1).symm
    subst e1
    refine ⟨_, rfl, wpAny_letOwnedTupleGo_enum (s := { s with heap := h', toks := tk + 1 }) ho fun h'' he' sb => ?_⟩
    have hT2 : h''.get? s.heap.objs.size = some { cls := .type "tuple", data := .seq #[.int (c + (i : Int)) tk, v] } := (sb.2 _ (Nat.ne_of_gt el)).trans hT
    have new : ObjOk X.prog X.w (upd H s.heap.objs.size (.tup [.int (c + (i : Int)), x])) h'' s.heap.objs.size (.tup [.int (c + (i : Int)), x]) :=
      ⟨by show 2 ≤ sizeLine; decide, [.int (c + (i : Int)) tk, v], .cons ⟨_, rfl⟩ (.cons ru .nil), ⟨_, hT2, rfl, _, rfl⟩⟩
    have I1 : Inv X pins σ (upd H s.heap.objs.size (.tup [.int (c + (i : Int)), x])) { s with heap := h'', toks := tk + 1 } :=
      I.turnedNew (t' := tk + 1) (ch := [e, it]) (fun b o hb q => by
        simp only [List.mem_cons, List.not_mem_nil, or_false, not_or] at hb
        exact (sb.2 b hb.1).trans (hk b o hb.1 hb.2 q)) hf (Nat.le_refl _) new
    refine ⟨.ref s.heap.objs.size, _, I1, rfl, ⟨_, x, rfl, I.hok.fresh (Nat.le_refl _), rfl, fun l hl => by rw [I.list_inj hl qx]; exact hx⟩, ⟨⟨v, ?_⟩, st1.1.at fun o q => (sb.2 it n1.symm).trans q⟩, ?_⟩
    · rw [show c + ((i + 1 : Nat) : Int) = c + (i : Int) + 1 by omega]
      exact he'
    · obtain ⟨o1, q1, _⟩ := st.li
      intro b hb
      rw [upd_ne (Nat.ne_of_lt (two_of (P := fun z => z < s.heap.objs.size) el (Heap.lt_size q1) b hb))]
      exact (hf b hb).1
  done := by
    intro X hP hw hK hc i pins s σ H E I hf st hg
    subst hP hw hK
    obtain ⟨xs, qx, e1⟩ := hg
    obtain ⟨old, he⟩ := st.en
    obtain ⟨its, rv, p, _⟩ := I.list qx
    have hh : X.A.in1.handled = none := I.ok.hd hc
    obtain ⟨f0, f1, f2, f3, f4, f5⟩ := hf it (by simp)
    have l1 : its.toArray.size = i := by
      have := rv.length
      simp only [List.size_toArray]
      omega
    have hst : (fun i h => Heap.IsListIter h it a i ∧ Heap.IsList h a its.toArray) its.toArray.size s.heap := by
      rw [l1]
      exact ⟨st.li, p.isList⟩
    exact wpAny_pyNext_enum_endD (Draws.list hh it a n2 its.toArray) he hst fun h' eb => ⟨rfl, I.turned (t' := s.toks) (fun b o hb q => eb b o hb q) f0 f1 f3 f4 f5⟩
  self := fun A i s Q E st h => let ⟨_, he⟩ := st.en; wpAny_pyIter_enum he h
def iEnumC (K : PySem.W.Frag) (c : Int) (ta : TA) : TI := fun σ H R => ta σ H fun vs H1 => ∃ a xs, vs = [.ref a] ∧ SqL K H1 a xs ∧ R (ItC K c a) H1
/-- a built-in type called with names -/
theorem callT_names {M : Model} {A : Around} {E : Value → Shared → Prop} {s : Shared} {env : Env} {pos : Pos} {T : String} {e : Expr} {kws : List Keyword} {Q : Value → Shared → Prop}
    (h : wpAny M A (spliced (backTo pos (starEach [e] env))) (fun vs s₁ => wpAny M A (evalAll ((backToKw pos (keywordEach kws env)).map (·.2))) (fun kvs s₂ => wpAny M A (call (.type T) vs (((backToKw pos (keywordEach kws env)).filterMap (·.1)).zip kvs)) Q E s₂) E s₁) E s)
    (he : backTo pos (starEach [e] env) = [(false, eval e env)])
    (hall : (backToKw pos (keywordEach kws env)).all (·.1.isSome) = true) (hno : (backToKw pos (keywordEach kws env)).any (·.1.isNone) = false) :
    wpAny M A (callWith pos (.type T) [] (backTo pos (starEach [e] env)) (backToKw pos (keywordEach kws env))) Q E s := by
  rw [he] at h ⊢
  unfold callWith
  refine wpAny_bind (wpAny_holding (wpAny_mono (Q := fun g s1 => wpAny M A (call (.type T) g.pos g.kw) Q E s1) (evalArgs_kwB (f := .type T) (rest := []) hall h) (fun g s1 q => wpAny_bind (wpAny_standAt ?_)) fun _ _ z => z))
  rw [hno]
  exact wpAny_bind (wpAny_pure (wpAny_bind (wpAny_mono q (fun r s2 hr => wpAny_bind (wpAny_holding (wpAny_point (wpAny_pure hr)))) fun _ _ z => z)))
def iEnumS (K : PySem.W.Frag) (ta tk : TA) : TI := fun σ H R => ta σ H fun vs H1 => tk σ H1 fun zs H2 => ∃ (a : Addr) (xs : List V) (c : Int), vs = [.ref a] ∧ zs = [.int c] ∧ SqL K H2 a xs ∧ 0 ≤ c ∧ c < 2 ^ 62 ∧ R (ItC K c a) H2
theorem pi_enumS {X : Cx} {e : Expr} {kws : List Keyword} {ta tk : TA} {p pos tpos : Pos} {elts : List Expr} {kk : Nat} (hg : Gl X "enumerate") (hm : X.mg "enumerate" = none) (ha : PA X [e] ta) (hk : PK X kws tk)
    (he : backTo pos (starEach [e] X.env) = [(false, eval e X.env)] := by rfl) (hall : (backToKw pos (keywordEach kws X.env)).all (·.1.isSome) = true := by rfl)
    (hno : (backToKw pos (keywordEach kws X.env)).any (·.1.isNone) = false := by rfl) (hks : (backToKw pos (keywordEach kws X.env)).filterMap (·.1) = [("start" : Str)] := by rfl) :
    PI X (.Tuple elts kk tpos) (.Call (.Name "enumerate" p) [e] kws pos) (iEnumS X.K ta tk) := by
  refine ⟨fun pins s σ H R I h => ?_⟩
  refine wpAny_Call_Name_kw (ld_blt I hg hm PyProof.Rows.boot_enumerate (callT_names (thn (ha.run pos pins s σ H _ I h) fun us s1 ⟨vs, H1, I1, r1, q1⟩ => thn (hk.run pos pins s1 σ H1 _ I1 q1) fun ws s2 ⟨zs, H2, I2, r2, q2⟩ => ?_) he hall hno))
  rw [hks]
  obtain ⟨a, xs, c, rfl, rfl, qx, c0, c1, q⟩ := q2
  cases r1 with
  | cons r rr =>
  cases rr
  cases r
  cases r2 with
  | cons r rr =>
  cases rr
  obtain ⟨t, rfl⟩ := r
  obtain ⟨its, rv, p1, _⟩ := I2.list qx
  have la : a < s2.heap.objs.size := p1.lt
  have c2 : c < 2 ^ 63 := Int.lt_trans c1 (by decide)
  have c3 : -(2 ^ 63) ≤ c := Int.le_trans (by decide) c0
  refine enum_begins_start (begins_list a its.toArray) p1.isList c3 c2 fun h' hz h1 hsz hk => wpAny_pyIter_enum hz ?_
  have I3 : Inv X pins σ H2 { s2 with heap := h' } := I2.kept (t' := s2.toks) hk
  have fr : ∀ k : Nat, FpOk X pins H2 (s2.heap.objs.size + k) := fun k => I2.fpOk (Nat.le_add_right _ _) (I2.hok.fresh (Nat.le_add_right _ _))
  exact ⟨s2.heap.objs.size + 1, [s2.heap.objs.size + 1, s2.heap.objs.size], _, _, H2, rfl, I3,
    turn_ec (c := c) (Nat.succ_ne_self _) (Nat.ne_of_lt la) (Nat.ne_of_lt (Nat.lt_succ_of_lt la)), ⟨⟨_, by rw [show c + ((0 : Nat) : Int) = c by omega]; exact hz⟩, ⟨_, h1, rfl, rfl⟩⟩, two_of (fr 1) (fr 0), q⟩
end Tw

set_option maxHeartbeats 4000000
namespace Tw
open PySem PySem.Spec PyProof.Rows L2
/-! figures.py, and deeds as texts -/
section
variable {P : Program} {w : World} {K : PySem.W.Frag} {mg : Str → Option Value} {base : Heap}
theorem small_log {i : Int} (h : i.natAbs < 1000000000) : i.natAbs.log2 < 1920 := by
  by_cases z : i.natAbs = 0
  · rw [z]
    decide
  · exact Nat.lt_trans ((Nat.log2_lt z).2 (show i.natAbs < 2 ^ 30 from Nat.lt_trans h (by decide))) (by decide)
def sp_written : Sp := fun vs H Q _ => ∃ v : V, vs = [v] ∧ Sml v ∧ Q (.str (wrt v)) H
theorem cal_written (T : Tp K mg) : Cal P w K mg base 1 "written" sp_written := by
  obtain ⟨fd, F⟩ := f_written T
  refine cal_of F (g_written T) (b_written F) sc_written (fun vs H Q E h => ?_) (fun cdv A outer s H vs Q E hr h => ?_)
  · obtain ⟨v, rfl, _⟩ := h
    rfl
  · obtain ⟨v, rfl, sm, q⟩ := h
    refine ⟨_, (pss_one (ps_ret (pe_ifExp (pt_cmpR op_isN (pv 0) pe_non (nomark _)) (C8.pe_gc (by rfl) (c_NONE T)) (pe_callTy (call_str_int.or SkE.call_str_str) (by rfl) (z_str T) bb_str (pa_cons (pv 0) pa_nil))))), ?_⟩
    rcases sm with rfl | ⟨i, rfl, l⟩ | ⟨z, rfl, n⟩
    · exact ⟨_, rfl, rfl, _, rfl, iteT q⟩
    · exact ⟨_, rfl, rfl, _, rfl, iteF ⟨_, rfl, .inl ⟨i, rfl, small_log l, q⟩⟩⟩
    · exact ⟨_, rfl, rfl, _, rfl, iteF ⟨_, rfl, .inr ⟨z, rfl, q⟩⟩⟩
/-! ### the words of a deed -/
def Dd.line (x : Dd) : Str := Txt.join " " (x.row.map wrt)
/-- what may stand in a text -/
def Dd.Tx : Dd → Prop
  | .las l => l.natAbs < 1000000000
  | .mom z => Nm z
  | .span y => Nm y.en ∧ Nm y.bg ∧ y.lo.natAbs < 1000000000 ∧ y.hi.natAbs < 1000000000 ∧ ∀ i, y.la = some i → i.natAbs < 1000000000
  | .tie y => Nm y.one ∧ Nm y.oth ∧ (∀ i, y.bot = some i → i.natAbs < 1000000000) ∧ ∀ i, y.top = some i → i.natAbs < 1000000000
  | .unt i => i.natAbs < 1000000000
  | .wo z => Nm z
def Dd.kinds : Dd → List Str
  | .las _ => ["number"]
  | .mom _ => ["name"]
  | .span _ => ["name", "name", "number", "number", "bound"]
  | .tie _ => ["name", "name", "bound", "bound"]
  | .unt _ => ["number"]
  | .wo _ => ["name"]
/-- what words of this kind may be -/
def KdO (k : Str) (v : V) : Prop := (k = "number" ∧ ∃ i : Int, v = .int i ∧ i.natAbs < 1000000000) ∨ (k = "bound" ∧ (v = .non ∨ ∃ i : Int, v = .int i ∧ i.natAbs < 1000000000)) ∨ (k = "name" ∧ ∃ z, v = .str z ∧ Nm z)
theorem KdO.sml {k : Str} {v : V} (h : KdO k v) : Sml v := by
  rcases h with ⟨_, h⟩ | ⟨_, h | h⟩ | ⟨_, h⟩
  · exact .inr (.inl h)
  · exact .inl h
  · exact .inr (.inl h)
  · exact .inr (.inr h)
theorem kd_num {i : Int} (h : i.natAbs < 1000000000) : KdO "number" (.int i) := .inl ⟨rfl, i, rfl, h⟩
theorem kd_name {z : Str} (h : Nm z) : KdO "name" (.str z) := .inr (.inr ⟨rfl, z, rfl, h⟩)
theorem kd_bound {o : Option Int} (h : ∀ i, o = some i → i.natAbs < 1000000000) : KdO "bound" (oV o) := by
  cases o with
  | none => exact .inr (.inl ⟨rfl, .inl rfl⟩)
  | some i => exact .inr (.inl ⟨rfl, .inr ⟨i, rfl, h i rfl⟩⟩)
theorem Dd.Tx.rest {x : Dd} (h : x.Tx) : Paired KdO x.kinds x.rest := by
  cases x with
  | las l => exact .cons (kd_num h) .nil
  | mom z => exact .cons (kd_name h) .nil
  | span y => exact .cons (kd_name h.1) (.cons (kd_name h.2.1) (.cons (kd_num h.2.2.1) (.cons (kd_num h.2.2.2.1) (.cons (kd_bound h.2.2.2.2) .nil))))
  | tie y => exact .cons (kd_name h.1) (.cons (kd_name h.2.1) (.cons (kd_bound h.2.2.1) (.cons (kd_bound h.2.2.2) .nil)))
  | unt i => exact .cons (kd_num h) .nil
  | wo z => exact .cons (kd_name h) .nil
theorem paired_all {α β : Type} {F : α → β → Prop} {G : β → Prop} (f : ∀ a b, F a b → G b) : ∀ {l : List α} {m : List β}, Paired F l m → ∀ b ∈ m, G b
  | _, _, .nil, b, h => absurd h List.not_mem_nil
  | _, _, .cons h t, b, hb => by
    rcases List.mem_cons.1 hb with e | e
    · rw [e]
      exact f _ _ h
    · exact paired_all f t b e
theorem word_nm (x : Dd) : Nm x.word := by
  have e : x.word ∈ (["by", "moment", "span", "tie", "untie", "without"] : List Str) := by
    cases x <;> simp [Dd.word]
  have a : (["by", "moment", "span", "tie", "untie", "without"] : List Str).all nmB = true := by decide +kernel
  exact nmB_ok.1 (List.all_eq_true.1 a _ e)
theorem Dd.Tx.row {x : Dd} (h : x.Tx) : ∀ v ∈ x.row, Sml v := fun v hv => by
  rcases List.mem_cons.1 hv with e | e
  · rw [e]
    exact .inr (.inr ⟨_, rfl, word_nm x⟩)
  · exact paired_all (fun _ _ k => KdO.sml k) h.rest v e
theorem row_few (x : Dd) : x.row.length ≤ 6 := by
  cases x <;> exact Nat.le_of_ble_eq_true rfl
theorem sum_len {ps : List Str} (h : ∀ p ∈ ps, p.length ≤ 10) : (ps.map (·.length)).sum ≤ ps.length * 10 := by
  induction ps with
  | nil => exact Nat.le_refl _
  | cons p r ih =>
    have h1 := h p List.mem_cons_self
    have h2 := ih fun z hz => h z (List.mem_cons_of_mem _ hz)
    rw [List.map_cons, List.sum_cons, List.length_cons, Nat.succ_mul]
    omega
theorem line_len {x : Dd} (h : x.Tx) : x.line.length ≤ 66 := by
  have := join_len " " (x.row.map wrt) fun p hp => by
    obtain ⟨v, hv, rfl⟩ := List.mem_map.1 hp
    exact wrt_len (h.row v hv)
  rw [List.length_map, show (" " : Str).length = 1 by decide +kernel] at this
  have l := row_few x
  exact Nat.le_trans this (by omega)
def sp_wdeed : Sp := fun vs H Q _ => ∃ (t : Addr) (x : Dd), vs = [.ref t] ∧ H t = some (.tup x.row) ∧ x.Tx ∧ ∀ H', Same H H' → Q (.str x.line) H'
theorem cal_write_deed (T : Tp K mg) : Cal P w K mg base 2 "write_deed" sp_wdeed := by
  obtain ⟨fd, F⟩ := f_write_deed T
  refine cal_of F (g_write_deed T) (b_write_deed F) sc_write_deed (fun vs H Q E h => ?_) (fun cdv A outer s H vs Q E hr h => ?_)
  · obtain ⟨t, x, rfl, _⟩ := h
    rfl
  · obtain ⟨t, x, rfl, ht, tx, q⟩ := h
    refine ⟨_, (pss_one (ps_ret (pe_bm PySem.F.plainAttrs_str PySem.F.slot_str_join PySem.F.type_str_join mt_join pe_str (pa_cons (pe_lc (own := [("thing", 1)]) (g := gName 1) (tt := tYes) rfl sc_write_deed.nd (pi_tup (pv 0)) (blkOk_by (N := N_write_deed) (sc := defScope s_write_deed) (by decide +kernel)) (fun _ _ _ _ _ => (pg_name (i := 1) sc_write_deed.nd rfl (.inl rfl))) (fun _ _ _ _ _ => pts_nil) (fun _ _ _ _ _ => (C8.pe_c (cal_written T) hr (by decide) rfl (pa_cons (pv 1) pa_nil)))) pa_nil)))), ?_⟩
    refine ⟨rfl, _, rfl, t, rfl, ⟨_, .inl (.inl ht)⟩, fun D nD => ?_⟩
    refine lc_pure x.row (walk_tup (K := K) (a := t) (xs := x.row)) (fun v => some (wrt v)) (SV V.str) (fun _ h => h) nD (Nat.le_trans (row_few x) (by decide)) (fun H' s => .inl (.inl (s _ _ ht))) ?_ ?_
    · rintro i v u H1 H2 hv s1 ⟨rfl, hu⟩ Good Bad kt kf
      rw [hv] at hu
      cases hu
      exact ⟨rfl, yes_i (iteT ⟨_, rfl, v, rfl, tx.row v (List.mem_of_getElem? hv), kt _ _ _ rfl (Same.refl _) rfl⟩)⟩
    · intro H1 acc s1 d1 p1
      have ea := paired_enc p1
      rw [show x.row.filterMap (fun v => some (wrt v)) = x.row.map wrt from List.filterMap_eq_map ▸ rfl] at ea
      subst ea
      refine ⟨" ", D, x.row.map wrt, rfl, rfl, .inl (.inl (.inl d1)), ?_, q H1 s1⟩
      have := sum_len (ps := x.row.map wrt) fun p hp => by
        obtain ⟨v, hv, rfl⟩ := List.mem_map.1 hp
        exact wrt_len (tx.row v hv)
      rw [List.length_map] at this
      have l := row_few x
      rw [List.length_map, show (" " : Str).length = 1 by decide +kernel]
      omega
/-! ### numbers read -/
def figS (n : Nat) : Str := ⟨(TL.numL n).toArray⟩
theorem fig_len (n : Nat) : (figS n).length = (TL.numL n).length := by
  rw [TL.len_tl]
  rfl
theorem fig_signs : ∀ c, 48 ≤ c ∧ c ≤ 57 → c ∈ ("0123456789" : Str).cps.toList := by
  have : ∀ c < 58, 48 ≤ c → c ∈ ("0123456789" : Str).cps.toList := by decide +kernel
  exact fun c h => this c (by omega) h.1
def sp_isfig : Sp := fun vs H Q _ => ∃ n : Nat, vs = [.str (figS n)] ∧ n < 1000000000 ∧ ∀ H', Same H H' → Q (.bl true) H'
theorem cal_is_figures (T : Tp K mg) : Cal P w K mg base 2 "is_figures" sp_isfig := by
  obtain ⟨fd, F⟩ := f_is_figures T
  refine cal_of F (g_is_figures T) (b_is_figures F) sc_is_figures (fun vs H Q E h => ?_) (fun cdv A outer s H vs Q E hr h => ?_)
  · obtain ⟨n, rfl, _⟩ := h
    rfl
  · obtain ⟨n, rfl, hn, q⟩ := h
    obtain ⟨l1, l2⟩ := numL_len9 hn
    have lf := fig_len n
    refine ⟨_, (pss_cons (ps_if (PW.pt (pw_or (pt_not (pt_chain op_le op_le pe_int (pe_callB call_len_str (by rfl) (z_len T) bb_len (pa_cons (pv 0) pa_nil)) (C8.pe_gc (by rfl) (c_MOST_FIGURES T)))) (pw_or1 (PW.pt (pw_and (pt_cmpR op_eq (pe_ix ix_str (pv 0) pe_int (fun _ _ => rfl)) pe_str (nomark _)) (pw_and1 (pt_cmpR op_ne (pv 0) pe_str (nomark _)))))))) (pss_one (ps_ret pe_bl)) pss_nil)
      (pss_one (ps_ret (pe_callB (cr_all rfl) (by rfl) (z_all T) bb_all (pa_cons (pe_lc (own := [("sign", 1)]) (g := gName 1) (tt := tYes) rfl sc_is_figures.nd (pi_str (pv 0)) (blkOk_by (N := N_is_figures) (sc := defScope s_is_figures) (by decide +kernel)) (fun _ _ _ _ _ => (pg_name (i := 1) sc_is_figures.nd rfl (.inl rfl))) (fun _ _ _ _ _ => pts_nil) (fun _ _ _ _ _ => (pe_cmpR op_in_sign (pv 1) (C8.pe_gc (by rfl) (c_FIGURES T)) (by rfl)))) pa_nil))))), ?_⟩
    refine ⟨_, rfl, _, rfl, Nat.le_of_lt (small1000 (by omega)), _, _, rfl, rfl, _, rfl, ?_⟩
    rw [decide_eq_true (show (1 : Int) ≤ ((figS n).length : Int) by omega)]
    refine iteT ⟨_, _, rfl, rfl, _, rfl, ?_⟩
    rw [decide_eq_true (show ((figS n).length : Int) ≤ 9 by omega)]
    refine iteF ?_
    obtain ⟨c, r, e⟩ : ∃ c r, TL.numL n = c :: r := by
      cases h : TL.numL n with
      | nil => exact absurd h (TL.numL_ne n)
      | cons c r => exact ⟨c, r, rfl⟩
    have e0 : (⟨#[c]⟩ : Str) = "0" ↔ c = 48 := by
      have e1 : ("0" : Str) = ⟨#[48]⟩ := by decide +kernel
      rw [e1]
      constructor
      · intro z
        injection z with z
        have := congrArg Array.toList z
        exact (List.cons.inj this).1
      · rintro rfl
        rfl
    have e2 : figS n = "0" ↔ c = 48 := by
      constructor
      · intro z
        have h1 : TL.tl (figS n) = c :: r := e
        rw [z, show TL.tl ("0" : Str) = [48] by decide +kernel] at h1
        exact (List.cons.inj h1).1.symm
      · rintro rfl
        have n0 : n = 0 := by
          cases n with
          | zero => rfl
          | succ m => exact absurd rfl (numL_head (Nat.succ_pos m) _ _ e)
        subst n0
        decide +kernel
    refine ⟨_, rfl, figS n, 0, c, rfl, rfl, Nat.le_of_lt (small1000 (by omega)), atI_nat (j := 0) (by show (TL.numL n)[0]? = some c; rw [e]; rfl), rfl, _, rfl, ?_⟩
    have hz : (figS n).cps.toList = TL.numL n := rfl
    by_cases c48 : c = 48
    · rw [decide_eq_true (show V.str (⟨#[c]⟩ : Str) = V.str "0" from congrArg V.str (e0.2 c48))]
      refine iteT ⟨_, rfl, rfl, _, rfl, ?_⟩
      rw [decide_eq_true (show V.str (figS n) = V.str "0" from congrArg V.str (e2.2 c48))]
      refine iteF ?_
      refine ⟨_, rfl, _, rfl, fun D nD => ?_⟩
      refine lc_it walk_str (fun i H1 => Same H H1 ∧ H1 D = some (.lst ((List.replicate i true).map V.bl))) ⟨same_upd nD, upd_same⟩ (fun _ _ _ _ => trivial) ?_ ?_
      · rintro i x H1 H2 hi ⟨s1, d1⟩ ⟨rfl, d, hd, rfl⟩
        have hd' : (TL.numL n)[i]? = some d := by
          rw [← hz, Array.getElem?_toList]
          exact hd
        have dg := TL.numL_digits n d (List.mem_of_getElem? hd')
        have hi' : i < (TL.numL n).length := (List.getElem?_eq_some_iff.mp hd').1
        refine ⟨rfl, yes_i (iteT ?_)⟩
        refine ⟨_, rfl, d, _, rfl, rfl, ?_⟩
        rw [decide_eq_true (fig_signs d dg)]
        refine ⟨_, d1, ?_, ?_, ?_⟩
        · rw [List.length_map, List.length_replicate]
          exact small1000 (by omega)
        · exact same_put s1 nD
        · rw [upd_same, List.replicate_succ', List.map_append]
          rfl
      · rintro H1 ⟨s1, d1⟩
        refine ⟨D, List.replicate (figS n).cps.size true, rfl, .inl (.inl d1), ?_⟩
        rw [show (List.replicate (figS n).cps.size true).all id = true by simp]
        exact q H1 s1
    · rw [decide_eq_false (show ¬ V.str (⟨#[c]⟩ : Str) = V.str "0" from fun z => c48 (e0.1 (V.str.inj z)))]
      refine iteF ?_
      refine ⟨_, rfl, _, rfl, fun D nD => ?_⟩
      refine lc_it walk_str (fun i H1 => Same H H1 ∧ H1 D = some (.lst ((List.replicate i true).map V.bl))) ⟨same_upd nD, upd_same⟩ (fun _ _ _ _ => trivial) ?_ ?_
      · rintro i x H1 H2 hi ⟨s1, d1⟩ ⟨rfl, d, hd, rfl⟩
        have hd' : (TL.numL n)[i]? = some d := by
          rw [← hz, Array.getElem?_toList]
          exact hd
        have dg := TL.numL_digits n d (List.mem_of_getElem? hd')
        have hi' : i < (TL.numL n).length := (List.getElem?_eq_some_iff.mp hd').1
        refine ⟨rfl, yes_i (iteT ?_)⟩
        refine ⟨_, rfl, d, _, rfl, rfl, ?_⟩
        rw [decide_eq_true (fig_signs d dg)]
        refine ⟨_, d1, ?_, ?_, ?_⟩
        · rw [List.length_map, List.length_replicate]
          exact small1000 (by omega)
        · exact same_put s1 nD
        · rw [upd_same, List.replicate_succ', List.map_append]
          rfl
      · rintro H1 ⟨s1, d1⟩
        refine ⟨D, List.replicate (figS n).cps.size true, rfl, .inl (.inl d1), ?_⟩
        rw [show (List.replicate (figS n).cps.size true).all id = true by simp]
        exact q H1 s1
theorem not_minus {i : Int} : ¬ numS i = "-" := fun h => by
  have e : TL.tl ("-" : Str) = [45] := by decide +kernel
  have h2 := congrArg TL.tl h
  rw [e, tl_numS] at h2
  by_cases hi : i < 0
  · rw [itL, if_pos hi] at h2
    exact TL.numL_ne _ (List.cons.inj h2).2
  · rw [itL, if_neg hi] at h2
    have := TL.numL_digits i.natAbs 45 (by rw [h2]; exact List.mem_cons_self)
    omega
theorem numS_len {i : Int} (h : i.natAbs < 1000000000) : (numS i).length ≤ 10 := wrt_len (v := .int i) (.inr (.inl ⟨i, rfl, h⟩))
def sp_rnum : Sp := fun vs H Q _ => ∃ i : Int, vs = [.str (numS i)] ∧ i.natAbs < 1000000000 ∧ ∀ H', Same H H' → Q (.int i) H'
theorem cal_read_numberC (T : Tp K mg) (c : Nat) : Cal P w K mg base (c + 4) "read_number" sp_rnum := by
  obtain ⟨fd, F⟩ := f_read_number T
  refine cal_of F (g_read_number T) (b_read_number F) sc_read_number (fun vs H Q E h => ?_) (fun cdv A outer s H vs Q E hr h => ?_)
  · obtain ⟨i, rfl, _⟩ := h
    rfl
  · obtain ⟨i, rfl, hi, q⟩ := h
    refine ⟨_, (pss_cons (ps_set (i := 1) sc_read_number.nd rfl (.inl rfl) (pe_bm PySem.F.plainAttrs_str PySem.F.slot_str_removeprefix PySem.F.type_str_removeprefix mt_removeprefix (pv 0) (pa_cons pe_str pa_nil)))
      (pss_cons (ps_if (PW.pt (pw_or (pt_not (pt_val (C8.pe_c (cal_is_figures T) hr (by omega) rfl (pa_cons (pv 1) pa_nil)))) (pw_or1 (pt_cmpR op_eq (pv 0) pe_str (nomark _))))) (pss_one ps_never) pss_nil)
      (pss_one (ps_ret (pe_callTy call_int_str (by rfl) (z_int T) bb_int (pa_cons (pv 0) pa_nil)))))), ?_⟩
    have l := numS_len hi
    refine ⟨_, rfl, rfl, _, _, rfl, rfl, Nat.le_of_lt (small1000 (by omega)), ?_⟩
    rw [figures_of]
    refine ⟨_, rfl, i.natAbs, rfl, hi, fun H1 s1 => ⟨_, rfl, iteF ⟨_, rfl, rfl, _, rfl, ?_⟩⟩⟩
    rw [decide_eq_false (show ¬ V.str (numS i) = V.str "-0" from fun z => not_minus0 (V.str.inj z))]
    exact iteF ⟨_, rfl, numS i, i, rfl, int_numS hi, by omega, q H1 s1⟩
theorem cal_read_number (T : Tp K mg) : Cal P w K mg base 4 "read_number" sp_rnum := cal_read_numberC T 0
def sp_rbnd : Sp := fun vs H Q _ => ∃ v : V, vs = [.str (wrt v)] ∧ (v = .non ∨ ∃ i : Int, v = .int i ∧ i.natAbs < 1000000000) ∧ ∀ H', Same H H' → Q v H'
theorem cal_read_bound (T : Tp K mg) : Cal P w K mg base 5 "read_bound" sp_rbnd := by
  obtain ⟨fd, F⟩ := f_read_bound T
  refine cal_of F (g_read_bound T) (b_read_bound F) sc_read_bound (fun vs H Q E h => ?_) (fun cdv A outer s H vs Q E hr h => ?_)
  · obtain ⟨v, rfl, _⟩ := h
    rfl
  · obtain ⟨v, rfl, hv, q⟩ := h
    refine ⟨_, (pss_cons (ps_if (pt_cmpR op_eq (pv 0) (C8.pe_gc (by rfl) (c_NONE T)) (nomark _)) (pss_one (ps_ret pe_non)) pss_nil)
      (pss_one (ps_ret (C8.pe_c (cal_read_number T) hr (by decide) rfl (pa_cons (pv 0) pa_nil))))), ?_⟩
    refine ⟨_, rfl, rfl, _, rfl, ?_⟩
    rcases hv with rfl | ⟨i, rfl, hi⟩
    · rw [decide_eq_true (show V.str (wrt .non) = V.str "-" from rfl)]
      exact iteT (q H (Same.refl _))
    · rw [decide_eq_false (show ¬ V.str (wrt (.int i)) = V.str "-" from fun z => not_minus (V.str.inj z))]
      exact iteF ⟨_, rfl, i, rfl, hi, fun H1 s1 => q H1 s1⟩
def sp_rnam : Sp := fun vs H Q _ => ∃ z : Str, vs = [.str z] ∧ Nm z ∧ ∀ H', Same H H' → Q (.str z) H'
theorem cal_read_name (T : Tp K mg) : Cal P w K mg base 5 "read_name" sp_rnam := by
  obtain ⟨fd, F⟩ := f_read_name T
  refine cal_of F (g_read_name T) (b_read_name F) sc_read_name (fun vs H Q E h => ?_) (fun cdv A outer s H vs Q E hr h => ?_)
  · obtain ⟨z, rfl, _⟩ := h
    rfl
  · obtain ⟨z, rfl, hz, q⟩ := h
    refine ⟨_, (pss_cons (ps_if (pt_not (pt_val (C8.pe_c (cal_is_name T) hr (by decide) rfl (pa_cons (pv 0) pa_nil)))) (pss_one ps_never) pss_nil)
      (pss_one (ps_ret (pv 0)))), ?_⟩
    exact ⟨_, rfl, z, rfl, hz, fun H1 s1 => ⟨_, rfl, iteF ⟨_, rfl, q H1 s1⟩⟩⟩
/-! ### a word read by its kind -/
abbrev TboX (w : World) (K : PySem.W.Frag) : Prop := ∀ t ∈ tb, He.dicW K (t.1 K) = some (He.keysIn w.params t.2)
def onR (f g : Addr) (sp : Sp) : Option Sp := if f = g then some sp else none
theorem onR_at {f : Addr} {sp : Sp} : onR f f sp = some sp := if_pos rfl
theorem onR_of {f g : Addr} {sp sp' : Sp} (e : onR f g sp = some sp') : f = g ∧ sp = sp' := by
  unfold onR at e
  by_cases c : f = g
  · rw [if_pos c] at e
    exact ⟨c, Option.some.inj e⟩
  · rw [if_neg c] at e
    cases e
def SRd (K : PySem.W.Frag) (z : Str) (f : Addr) : Option Sp := if z = "number" then onR f (He.ga K "read_number") sp_rnum else if z = "bound" then onR f (He.ga K "read_bound") sp_rbnd else onR f (He.ga K "read_name") sp_rnam
theorem held_R {x : Str} {k : Nat} {sp : Sp} {f : Addr} (c : Cal P w K mg base k x sp) (g : mg x = some (.ref f)) : Held P w K mg base k f sp := by
  obtain ⟨f', fd, ps, ds, F, at_, kp, b, dv⟩ := c.ex
  rw [g] at at_
  cases at_
  cases dv
  exact ⟨fd, ps, F, kp, b⟩
theorem heldR (T : Tp K mg) (z : Str) : ∀ f sp, SRd K z f = some sp → Held P w K mg base 5 f sp := fun f sp e => by
  unfold SRd at e
  by_cases c1 : z = "number"
  · rw [if_pos c1] at e
    obtain ⟨rfl, rfl⟩ := onR_of e
    exact held_R (cal_read_numberC T 1) (g_read_number T)
  · rw [if_neg c1] at e
    by_cases c2 : z = "bound"
    · rw [if_pos c2] at e
      obtain ⟨rfl, rfl⟩ := onR_of e
      exact held_R (cal_read_bound T) (g_read_bound T)
    · rw [if_neg c2] at e
      obtain ⟨rfl, rfl⟩ := onR_of e
      exact held_R (cal_read_name T) (g_read_name T)
def sp_rword : Sp := fun vs H Q _ => ∃ (k : Str) (v : V), vs = [.str k, .str (wrt v)] ∧ KdO k v ∧ ∀ H', Same H H' → Q v H'
theorem cal_read_word (T : Tp K mg) (TO : TboX w K) : Cal P w K mg base 6 "read_word" sp_rword := by
  obtain ⟨fd, F⟩ := f_read_word T
  refine cal_of F (g_read_word T) (b_read_word F) sc_read_word (fun vs H Q E h => ?_) (fun cdv A outer s H vs Q E hr h => ?_)
  · obtain ⟨k, v, rfl, _⟩ := h
    rfl
  · obtain ⟨z, v, rfl, hk, q⟩ := h
    obtain ⟨es, n, DF, hks⟩ := kd_all (TO (fun K => He.ga K "READERS", ["number", "bound", "name"]) (by first | exact List.mem_cons_self | exact List.mem_cons_of_mem _ List.mem_cons_self))
    refine ⟨_, (pss_cons (ps_set (i := 2) sc_read_word.nd rfl (.inl rfl) (pe_ix ix_kdict (pe_glob (v := .ref (He.ga K "READERS")) (by rfl) (g_READERS T) rfl) (pv 0) (fun _ _ => rfl)))
      (pss_one (ps_ret (pe_callA (i := 2) (heldR T z) (hr.mono (by decide)) rfl (.inl rfl) (pa_cons (pv 1) pa_nil))))), ?_⟩
    rcases hk with ⟨rfl, i, rfl, hi⟩ | ⟨rfl, hv⟩ | ⟨rfl, y, rfl, hy⟩
    · refine ⟨_, rfl, He.ga K "READERS", _, .ref (He.ga K "read_number"), rfl, rfl, ⟨es, n, _, DF.at_, DF.lit, nt_READERS_number T, rfl⟩, ?_⟩
      exact ⟨He.ga K "read_number", sp_rnum, rfl, by unfold SRd; rw [if_pos rfl]; exact onR_at, _, rfl, i, rfl, hi, fun H1 s1 => q H1 s1⟩
    · refine ⟨_, rfl, He.ga K "READERS", _, .ref (He.ga K "read_bound"), rfl, rfl, ⟨es, n, _, DF.at_, DF.lit, nt_READERS_bound T, rfl⟩, ?_⟩
      exact ⟨He.ga K "read_bound", sp_rbnd, rfl, by unfold SRd; rw [if_neg (by decide +kernel), if_pos rfl]; exact onR_at, _, rfl, v, rfl, hv, fun H1 s1 => q H1 s1⟩
    · refine ⟨_, rfl, He.ga K "READERS", _, .ref (He.ga K "read_name"), rfl, rfl, ⟨es, n, _, DF.at_, DF.lit, nt_READERS_name T, rfl⟩, ?_⟩
      exact ⟨He.ga K "read_name", sp_rnam, rfl, by unfold SRd; rw [if_neg (by decide +kernel), if_neg (by decide +kernel)]; exact onR_at, _, rfl, y, rfl, hy, fun H1 s1 => q H1 s1⟩
/-! ### the words of a deed read -/
theorem paired_nth {α β : Type} {F : α → β → Prop} : ∀ {l : List α} {m : List β} {i : Nat} {b : β}, Paired F l m → m[i]? = some b → ∃ a, l[i]? = some a ∧ F a b
  | _, _, 0, _, .cons h _, e => by
    cases e
    exact ⟨_, rfl, h⟩
  | _, _, i + 1, b, .cons _ t, e => by
    obtain ⟨a, h1, h2⟩ := paired_nth (i := i) t e
    exact ⟨a, h1, h2⟩
def sp_rwords : Sp := fun vs H Q _ => ∃ (a p : Addr) (ks : List Str) (ws : List V), vs = [.ref a, .ref p] ∧ (∀ H1, Same H H1 → SqT K H1 a (ks.map V.str)) ∧ H p = some (.lst (ws.map fun v => V.str (wrt v))) ∧ Paired KdO ks ws ∧ ks.length ≤ 10 ∧ ∀ D H', Same H H' → H D = none → H' D = some (.lst ws) → Q (.ref D) H'
theorem cal_read_words (T : Tp K mg) (TO : TboX w K) : Cal P w K mg base 7 "read_words" (sp_rwords (K := K)) := by
  obtain ⟨fd, F⟩ := f_read_words T
  refine cal_of F (g_read_words T) (b_read_words F) sc_read_words (fun vs H Q E h => ?_) (fun cdv A outer s H vs Q E hr h => ?_)
  · obtain ⟨a, p, ks, ws, rfl, _⟩ := h
    rfl
  · obtain ⟨a, p, ks, ws, rfl, ha, hp, kd, few, q⟩ := h
    refine ⟨_, (pss_cons (ps_if (pt_cmpR op_ne (pe_callB call_len_seq (by rfl) (z_len T) bb_len (pa_cons (pv 1) pa_nil)) (pe_callB call_len_seq (by rfl) (z_len T) bb_len (pa_cons (pv 0) pa_nil)) (nomark _)) (pss_one ps_never) pss_nil)
      (pss_one (ps_ret (pe_lc (own := [("kind", 2), ("word", 3)]) (tt := tYes) rfl sc_read_words.nd (pi_zipM (by rfl) (z_zip T) (pa_cons (pv 0) (pa_cons (pv 1) pa_nil))) (blkOk_by (N := N_read_words) (sc := defScope s_read_words) (by decide +kernel)) (fun _ _ _ _ _ => (pg_tupK (K := K) (n := 2) rfl rfl (pgs_cons (pg_name (i := 2) sc_read_words.nd rfl (.inl rfl)) (pgs_cons (pg_name (i := 3) sc_read_words.nd rfl (.inl rfl)) pgs_nil)))) (fun _ _ _ _ _ => pts_nil) (fun _ _ _ _ _ => (C8.pe_c (cal_read_word T TO) hr (by decide) rfl (pa_cons (pv 2) (pa_cons (pv 3) pa_nil)))))))), ?_⟩
    have lk := kd.length
    have l1 : (ws.map fun v => V.str (wrt v)).length = ws.length := List.length_map _
    have l2 : (ks.map V.str).length = ks.length := List.length_map _
    refine ⟨_, rfl, p, _, rfl, .inl (.inl (.inl hp)), _, rfl, a, _, rfl, .inr (ha H (Same.refl _)), rfl, _, rfl, ?_⟩
    rw [show (!decide (V.int (((ws.map fun v => V.str (wrt v)).length : Nat) : Int) = V.int (((ks.map V.str).length : Nat) : Int))) = false from by rw [decide_eq_true (congrArg V.int (by omega))]; rfl]
    refine iteF ⟨_, rfl, _, rfl, a, p, _, _, rfl, ha H (Same.refl _), .inl (.inl hp), fun D nD => ?_⟩
    refine lc_pure ws (walk_zipM (K := K) (a := a) (b := p) (xs := ks.map V.str) (ys := ws.map fun v => V.str (wrt v)) (n := ws.length) (by omega) (by omega)) (fun v => some v) (SV id) (fun _ h => h) nD (by omega) (fun H' s => ⟨ha H' s, .inl (.inl (s _ _ hp))⟩) ?_ ?_
    · rintro i v u H1 H2 hv s1 ⟨TT, x, y, rfl, nT, rfl, hx, hy⟩ Good Bad kt kf
      obtain ⟨k, hk, kk⟩ := paired_nth kd hv
      have hx : (ks.map V.str)[i]? = some x := hx
      have hy : (ws.map fun v => V.str (wrt v))[i]? = some y := hy
      rw [List.getElem?_map, hk] at hx
      rw [List.getElem?_map, hv] at hy
      cases hx
      cases hy
      have s2 := same_upd (o := .tup [.str k, .str (wrt v)]) nT
      exact ⟨TT, _, rfl, .inl (.inl upd_same), rfl, _, _, rfl, _, _, rfl, rfl, rfl, yes_i (iteT ⟨_, rfl, _, rfl, k, v, rfl, kk, fun H3 s3 => kt _ _ _ rfl (s2.trans s3) rfl⟩)⟩
    · intro H1 acc s1 d1 p1
      have ea := paired_enc p1
      rw [show ws.filterMap (fun v => some v) = ws from List.filterMap_some, List.map_id] at ea
      subst ea
      exact q D H1 s1 nD d1
theorem frm_of (T : Tp K mg) (x : Dd) : ∃ a, PySem.W.nsIn K (He.ga K "FORMS") x.word = some (some (.ref a)) ∧ ∀ H, SqT K H a (x.kinds.map V.str) := by
  cases x with
  | las l => exact frx_ok (frx_FORMS_by T)
  | mom l => exact frx_ok (frx_FORMS_moment T)
  | span l => exact frx_ok (frx_FORMS_span T)
  | tie l => exact frx_ok (frx_FORMS_tie T)
  | unt l => exact frx_ok (frx_FORMS_untie T)
  | wo l => exact frx_ok (frx_FORMS_without T)
def sp_rdeed : Sp := fun vs H Q _ => ∃ x : Dd, vs = [.str x.line] ∧ x.Tx ∧ ∀ t H', Same H H' → H t = none → H' t = some (.tup x.row) → Q (.ref t) H'
theorem cal_read_deed (T : Tp K mg) (TO : TboX w K) : Cal P w K mg base 8 "read_deed" sp_rdeed := by
  obtain ⟨fd, F⟩ := f_read_deed T
  refine cal_of F (g_read_deed T) (b_read_deed F) sc_read_deed (fun vs H Q E h => ?_) (fun cdv A outer s H vs Q E hr h => ?_)
  · obtain ⟨x, rfl, _⟩ := h
    rfl
  · obtain ⟨x, rfl, tx, q⟩ := h
    obtain ⟨es, n, DF, hks⟩ := kd_all (TO (fun K => He.ga K "FORMS", ["by", "moment", "span", "tie", "without", "untie"]) (by first | exact List.mem_cons_self | exact List.mem_cons_of_mem _ List.mem_cons_self))
    refine ⟨_, (pss_cons (ps_asg (pe_bm PySem.F.plainAttrs_str PySem.F.slot_str_split PySem.F.type_str_split mt_split (pv 0) (pa_cons pe_str pa_nil)) (pg_headL rfl (pgs_cons (pg_name (i := 1) sc_read_deed.nd rfl (.inl rfl)) (pgs_star (pg_name (i := 2) sc_read_deed.nd rfl (.inl rfl))))))
      (pss_cons (ps_if (pt_cmpR (op_notIn_kd DF) (pv 1) (pe_glob (v := .ref (He.ga K "FORMS")) (by rfl) (g_FORMS T) rfl) (by rfl)) (pss_one ps_never) pss_nil)
      (pss_cons (ps_set (i := 3) sc_read_deed.nd rfl (.inl rfl) (C8.pe_c (cal_read_words T TO) hr (by decide) rfl (pa_cons (pe_ix ix_kdict (pe_glob (v := .ref (He.ga K "FORMS")) (by rfl) (g_FORMS T) rfl) (pv 1) (fun _ _ => rfl)) (pa_cons (pv 2) pa_nil))))
      (pss_one (ps_ret (pe_tup (pa_cons (pv 1) (StX.pa_star (pv 3) pa_nil)))))))), ?_⟩
    have ll := line_len tx
    have back : Txt.split x.line " " = x.row.map wrt := words_back tx.row (by unfold Dd.row; exact fun z => nomatch z)
    have lr : x.rest.length ≤ 10 := by
      have := row_few x
      unfold Dd.row at this
      rw [List.length_cons] at this
      omega
    obtain ⟨a, hn, ha⟩ := frm_of T x
    have kd := tx.rest
    refine ⟨_, rfl, rfl, _, _, rfl, rfl, by decide +kernel, by rw [sizeLine_eq]; omega, fun p np => ?_⟩
    rw [back]
    have sp := same_upd (o := .lst ((x.row.map wrt).map V.str)) np
    refine ⟨p, .str x.word, (x.rest.map wrt).map V.str, rfl, .inl (.inl upd_same), ?_, fun D nD => ?_⟩
    · rw [List.length_map, List.length_map]
      omega
    have sD := same_upd (o := .lst ((x.rest.map wrt).map V.str)) nD
    have hD : (upd (upd H p (.lst ((x.row.map wrt).map V.str))) D (.lst ((x.rest.map wrt).map V.str))) D = some (.lst (x.rest.map fun v => V.str (wrt v))) := by
      rw [upd_same, List.map_map]
      rfl
    have s2 := sp.trans sD
    generalize upd (upd H p (.lst ((x.row.map wrt).map V.str))) D (.lst ((x.rest.map wrt).map V.str)) = H2 at hD s2 ⊢
    refine ⟨_, _, rfl, _, _, rfl, rfl, _, rfl, x.word, _, rfl, rfl, hn, _, rfl, iteF ?_⟩
    refine ⟨_, rfl, He.ga K "FORMS", x.word, .ref a, rfl, rfl, ⟨es, n, .ref a, DF.at_, DF.lit, hn, rfl⟩, _, rfl, a, D, x.kinds, x.rest, rfl, (fun H1 _ => ha H1), hD, kd, by have := kd.length; omega, fun D2 H3 s3 nD2 hD2 => ?_⟩
    refine ⟨_, rfl, _, rfl, D2, x.rest, rfl, .inr (.inl (.inl hD2)), ?_, fun t nt => ?_⟩
    · show (V.str x.word :: (x.rest ++ [])).length ≤ sizeLine
      rw [List.append_nil, List.length_cons]
      exact Nat.le_of_lt (small1000 (by omega))
    · refine q t _ ((s2.trans s3).trans (same_upd nt)) ((s2.trans s3).free nt) ?_
      rw [List.append_nil]
      exact upd_same
end
end Tw

set_option maxHeartbeats 4000000
namespace Tw
open PySem PySem.Spec PyProof.Rows L2
/-! lines of deeds, by themselves -/
theorem nl_one : ("\n" : Str).length = 1 := by decide +kernel
theorem line_signs {x : Dd} (h : x.Tx) : ∀ c ∈ TL.tl x.line, c = 32 ∨ c = 45 ∨ (48 ≤ c ∧ c ≤ 57) ∨ (97 ≤ c ∧ c ≤ 122) := fun c hc => by
  rcases join_mem " " _ c hc with e | ⟨p, hp, e⟩
  · rw [show TL.tl (" " : Str) = [32] by decide +kernel] at e
    exact .inl (List.mem_singleton.1 e)
  · obtain ⟨v, hv, rfl⟩ := List.mem_map.1 hp
    exact .inr (wrt_signs (h.row v hv) c e)
theorem lines_back {y : Str} {s : Nat} {S : List Nat} (ey : TL.tl y = s :: S) (hk : y.cps.all (· < 256) = true) (hs : s = 10 ∨ s = 59) {xs : List Dd} (h : ∀ x ∈ xs, x.Tx) (ne : xs ≠ []) : Txt.split (Txt.join y (xs.map Dd.line)) y = xs.map Dd.line := by
  refine TL.split_join ey hk (fun e => ne (List.map_eq_nil_iff.1 e)) fun p hp hc => ?_
  obtain ⟨x, hx, rfl⟩ := List.mem_map.1 hp
  have := line_signs (h x hx) s hc
  omega
theorem joinB (y : Str) (n : Nat) : ∀ ps : List Str, (∀ p ∈ ps, p.length ≤ n) → (Txt.join y ps).length ≤ ps.length * (n + y.length)
  | [], _ => by
    rw [TL.join_eq, TL.len_tl, TL.tl_join]
    exact Nat.zero_le _
  | [p], h => by
    have := h p List.mem_cons_self
    rw [TL.join_eq]
    show p.length ≤ 1 * (n + y.length)
    omega
  | p :: q :: r, h => by
    have h1 := h p List.mem_cons_self
    have h2 := joinB y n (q :: r) fun z hz => h z (List.mem_cons_of_mem _ hz)
    rw [TL.join_eq] at h2 ⊢
    have e : (Str.join y (p :: q :: r)).length = p.length + (y.length + (Str.join y (q :: r)).length) := by
      rw [TL.len_tl, TL.tl_join]
      show (TL.tl p ++ (TL.tl y ++ TL.joinL (TL.tl y) (((q :: r).map TL.tl)))).length = _
      rw [List.length_append, List.length_append, ← TL.tl_join, ← TL.len_tl, ← TL.len_tl, ← TL.len_tl]
    rw [e]
    have : (p :: q :: r).length * (n + y.length) = (q :: r).length * (n + y.length) + (n + y.length) := by
      rw [List.length_cons, Nat.succ_mul]
    omega
theorem sumB (n : Nat) {ps : List Str} (h : ∀ p ∈ ps, p.length ≤ n) : (ps.map (·.length)).sum ≤ ps.length * n := by
  induction ps with
  | nil => exact Nat.zero_le _
  | cons p r ih =>
    have h1 := h p List.mem_cons_self
    have h2 := ih fun z hz => h z (List.mem_cons_of_mem _ hz)
    rw [List.map_cons, List.sum_cons, List.length_cons, Nat.succ_mul]
    omega
theorem lines_len {xs : List Dd} (h : ∀ x ∈ xs, x.Tx) : ∀ p ∈ xs.map Dd.line, p.length ≤ 66 := fun p hp => by
  obtain ⟨x, hx, rfl⟩ := List.mem_map.1 hp
  exact line_len (h x hx)
end Tw

set_option maxHeartbeats 4000000
namespace Tw
open PySem PySem.Spec PyProof.Rows L2
/-! pages, by themselves -/
/-- the line of an entry -/
def ent (xs : List Dd) : Str := Txt.join "; " (xs.map Dd.line)
structure TxE (xs : List Dd) : Prop where
  tx : ∀ x ∈ xs, x.Tx
  fine : ∀ x ∈ xs, x.Fine
  ne : xs ≠ []
  le : xs.length ≤ 4
theorem semi_two : ("; " : Str).length = 2 := by decide +kernel
theorem ent_len {xs : List Dd} (h : TxE xs) : (ent xs).length ≤ 272 := by
  have := joinB "; " 66 (xs.map Dd.line) (lines_len h.tx)
  rw [List.length_map, semi_two] at this
  have := h.le
  unfold ent
  omega
theorem ent_back {xs : List Dd} (h : TxE xs) : Txt.split (ent xs) "; " = xs.map Dd.line := lines_back (y := "; ") (s := 59) (S := [32]) (by decide +kernel) (by decide +kernel) (.inr rfl) h.tx h.ne
theorem ent_one (x : Dd) : ent [x] = x.line := by
  unfold ent
  apply TL.ext_tl
  rw [TL.join_eq, TL.tl_join]
  rfl
theorem ent_nl {xs : List Dd} (h : TxE xs) : 10 ∉ TL.tl (ent xs) := fun hc => by
  rcases join_mem "; " _ 10 hc with e | ⟨p, hp, e⟩
  · rw [show TL.tl ("; " : Str) = [59, 32] by decide +kernel] at e
    simp at e
  · obtain ⟨x, hx, rfl⟩ := List.mem_map.1 hp
    have := line_signs (h.tx x hx) 10 e
    omega
/-- the first line -/
def headT (l : Int) : Str := Txt.join " " [("log" : Str), numS l]
theorem headT_app (l : Int) : headT l = ("log " : Str) ++ numS l := by
  apply TL.ext_tl
  unfold headT
  rw [TL.join_eq, TL.tl_join, TL.tl_append]
  show TL.tl ("log" : Str) ++ (TL.tl (" " : Str) ++ TL.tl (numS l)) = _
  rw [← List.append_assoc]
  congr 1
theorem first_app (l : Int) : Str.empty ++ Str.ofString "log " ++ Str.ofString (toString l) = headT l := by
  rw [headT_app]
  apply TL.ext_tl
  rw [TL.tl_append, TL.tl_append, TL.tl_append]
  rfl
theorem num_signs {l : Int} : ∀ c ∈ TL.tl (numS l), c = 45 ∨ (48 ≤ c ∧ c ≤ 57) := fun c hc => by
  rw [tl_numS, itL] at hc
  by_cases hi : l < 0
  · rw [if_pos hi] at hc
    rcases List.mem_cons.1 hc with e | e
    · exact .inl e
    · exact .inr (TL.numL_digits _ c e)
  · rw [if_neg hi] at hc
    exact .inr (TL.numL_digits _ c hc)
theorem headT_len {l : Int} (h : l.natAbs < 1000000000) : (headT l).length ≤ 22 := by
  have := joinB " " 10 [("log" : Str), numS l] fun p hp => by
    simp only [List.mem_cons, List.not_mem_nil, or_false] at hp
    rcases hp with rfl | rfl
    · decide +kernel
    · exact numS_len h
  rw [show (" " : Str).length = 1 by decide +kernel] at this
  exact this
theorem headT_back (l : Int) : Txt.split (headT l) " " = [("log" : Str), numS l] := by
  refine TL.split_join (y := " ") (s := 32) (S := []) (by decide +kernel) (by decide +kernel) (fun e => nomatch e) fun p hp hc => ?_
  simp only [List.mem_cons, List.not_mem_nil, or_false] at hp
  rcases hp with rfl | rfl
  · rw [show TL.tl ("log" : Str) = [108, 111, 103] by decide +kernel] at hc
    simp at hc
  · have := num_signs 32 hc
    omega
theorem headT_nl (l : Int) : 10 ∉ TL.tl (headT l) := fun hc => by
  rcases join_mem " " _ 10 hc with e | ⟨p, hp, e⟩
  · rw [show TL.tl (" " : Str) = [32] by decide +kernel] at e
    simp at e
  · simp only [List.mem_cons, List.not_mem_nil, or_false] at hp
    rcases hp with rfl | rfl
    · rw [show TL.tl ("log" : Str) = [108, 111, 103] by decide +kernel] at e
      simp at e
    · have := num_signs 10 e
      omega
/-- a page -/
def pgT (l : Int) (es : List (List Dd)) : Str := Txt.join "\n" (headT l :: es.map ent)
theorem pgT_nil (l : Int) : pgT l [] = headT l := by
  unfold pgT
  apply TL.ext_tl
  rw [TL.join_eq, TL.tl_join]
  rfl
theorem pg_lines {l : Int} (hl : l.natAbs < 1000000000) {es : List (List Dd)} (h : ∀ xs ∈ es, TxE xs) : ∀ p ∈ headT l :: es.map ent, p.length ≤ 272 := fun p hp => by
  rcases List.mem_cons.1 hp with rfl | hp
  · exact Nat.le_trans (headT_len hl) (by decide)
  · obtain ⟨xs, hx, rfl⟩ := List.mem_map.1 hp
    exact ent_len (h xs hx)
theorem pgT_len {l : Int} (hl : l.natAbs < 1000000000) {es : List (List Dd)} (h : ∀ xs ∈ es, TxE xs) : (pgT l es).length ≤ (es.length + 1) * 273 := by
  have := joinB "\n" 272 (headT l :: es.map ent) (pg_lines hl h)
  rw [List.length_cons, List.length_map, nl_one] at this
  exact this
theorem pgT_back (l : Int) {es : List (List Dd)} (h : ∀ xs ∈ es, TxE xs) : Txt.split (pgT l es) "\n" = headT l :: es.map ent := by
  refine TL.split_join (y := "\n") (s := 10) (S := []) (by decide +kernel) (by decide +kernel) (fun e => nomatch e) fun p hp => ?_
  rcases List.mem_cons.1 hp with rfl | hp
  · exact headT_nl l
  · obtain ⟨xs, hx, rfl⟩ := List.mem_map.1 hp
    exact ent_nl (h xs hx)
/-! deeds that are granted can be written and read -/
theorem whB_int {a b i : Int} (h : whB a b (.int i) = true) : a ≤ i ∧ i ≤ b := of_decide_eq_true h
theorem tx_of {m : Md} {x : Dd} (k : DOk m) (ns : x.Ns) (h : x.no m = none) : x.Tx := by
  cases x with
  | las l =>
    have : whB 1 1000 (.int l) = true := by
      by_cases z : whB 1 1000 (.int l) = true
      · exact z
      · simp only [Dd.no, if_neg z] at h
        cases h
    have := whB_int this
    show l.natAbs < _
    omega
  | mom z => exact ns
  | wo z => exact ns
  | unt i =>
    have : whB 0 ((m.bd.length : Int) - 1) (.int i) = true := by
      by_cases z : whB 0 ((m.bd.length : Int) - 1) (.int i) = true
      · exact z
      · simp only [Dd.no, if_neg z] at h
        cases h
    have := whB_int this
    have := k.len.2.2
    show i.natAbs < _
    omega
  | span x =>
    refine ⟨ns.1, ns.2, ?_⟩
    simp only [Dd.no] at h
    split at h
    · cases h
    split at h
    · cases h
    split at h
    · cases h
    split at h
    · cases h
    rename_i hl
    split at h
    · cases h
    rename_i ht
    have hl : lenB (.int x.lo) (.int x.hi) = true := by simpa using hl
    have ht : lateB (oV x.la) = true := by simpa using ht
    have hl : (whB 1 1000 (.int x.lo) && whB x.lo 1000 (.int x.hi)) = true := hl
    rw [Bool.and_eq_true] at hl
    have h1 := whB_int hl.1
    have h2 := whB_int hl.2
    refine ⟨by omega, by omega, fun i hi => ?_⟩
    rw [hi] at ht
    have ht : (decide (V.int i = .non) || whB 0 1000 (.int i)) = true := ht
    rw [decide_eq_false (fun z => nomatch z), Bool.false_or] at ht
    have := whB_int ht
    omega
  | tie x =>
    refine ⟨ns.1, ns.2, ?_⟩
    simp only [Dd.no] at h
    split at h
    · cases h
    split at h
    · cases h
    split at h
    · cases h
    rename_i hb
    have hb : tieBnd (oV x.bot) (oV x.top) = true := by
      by_cases z : tieBnd (oV x.bot) (oV x.top) = true
      · exact z
      · exact absurd (.inr (Bool.eq_false_iff.2 z)) hb
    obtain ⟨bo, to, e1, e2, B⟩ := bd_ok1 hb
    have inj : ∀ {a b : Option Int}, oV a = oV b → a = b := fun {a b} e => by
      cases a <;> cases b <;> cases e <;> rfl
    rw [inj e1, inj e2]
    exact ⟨fun i hi => by have := B.lo i hi; omega, fun i hi => by have := B.hi i hi; omega⟩
theorem tx_all : ∀ {xs : List Dd} {m m' : Md}, DOk m → (∀ x ∈ xs, x.Ns) → dealt m xs = .ok m' → ∀ x ∈ xs, x.Tx
  | [], _, _, _, _, _, x, hx => absurd hx List.not_mem_nil
  | y :: xs, m, m', k, ns, h, x, hx => by
    have ny := ns y List.mem_cons_self
    cases e : y.no m with
    | some r =>
      rw [dealt_some e] at h
      cases h
    | none =>
      rw [dealt_none e] at h
      rcases List.mem_cons.1 hx with rfl | hx
      · exact tx_of k ny e
      · exact tx_all (did_ok k e ny) (fun z hz => ns z (List.mem_cons_of_mem _ hz)) h x hx
theorem chn_tx : ∀ {ss : List (List Dd × Md)} {m : Md}, Chn8 m ss → DOk m → (∀ r ∈ ss, Gr8 r) → ∀ r ∈ ss, TxE r.1
  | [], _, _, _, _, r, hr => absurd hr List.not_mem_nil
  | s :: ss, m, c, k, g, r, hr => by
    have gs := g s List.mem_cons_self
    rcases List.mem_cons.1 hr with rfl | hr
    · exact ⟨tx_all k gs.ns c.1, fun x hx => (gs.ns x hx).fine, gs.ne, gs.le⟩
    · exact chn_tx c.2 gs.ok (fun z hz => g z (List.mem_cons_of_mem _ hz)) r hr
theorem lastM_cons {m : Md} {s : List Dd × Md} : ∀ {a : List (List Dd × Md)}, lastM m (s :: a) = lastM s.2 a
  | [] => rfl
  | y :: t => by
    unfold lastM
    rw [List.getLast?_cons_cons]
    cases z : (y :: t).getLast? with
    | none => cases List.getLast?_eq_none_iff.1 z
    | some v => rfl
theorem chn_at : ∀ {ss : List (List Dd × Md)} {m : Md} {i : Nat} {r : List Dd × Md}, Chn8 m ss → ss[i]? = some r → dealt (lastM m (ss.take i)) r.1 = .ok r.2
  | [], _, _, _, _, h => by cases h
  | s :: ss, m, 0, r, c, h => by
    cases h
    exact c.1
  | s :: ss, m, i + 1, r, c, h => by
    rw [List.take_succ_cons, lastM_cons]
    exact chn_at (i := i) c.2 h
theorem take_snocP {α : Type} {l : List α} {i : Nat} {x : α} (h : l[i]? = some x) : l.take (i + 1) = l.take i ++ [x] := by
  rw [List.take_add_one, h]
  rfl
theorem doo_lg [L0] (ss : List (List Dd × Md)) (r : List Dd × Md) : (lgOf ss []).doo r.2 r.1 = lgOf (ss ++ [r]) [] := by
  unfold lgOf Lg.doo
  rw [rows_snoc, List.map_append, List.map_append]
  rfl
theorem md0_ok [L0] : DOk md0 := ⟨⟨L0.lo, L0.hi⟩, (by show (["start"] : List Str).Nodup; decide +kernel), (fun z hz => nmB_ok.1 (by rw [show z = "start" from List.mem_singleton.1 hz]; decide +kernel)), (fun x hx => absurd hx List.not_mem_nil), (fun x hx => absurd hx List.not_mem_nil), (by show 0 ≤ 10 ∧ 0 ≤ 4 ∧ 0 ≤ 40; decide)⟩
end Tw

set_option maxHeartbeats 4000000
namespace Tw
open PySem PySem.Spec PyProof.Rows L2
/-! pages.py -/
theorem made_same {H : Hp} {x dx C : Addr} (nx : H x = none) (ndx : H dx = none) : Same H (upd (upd H dx (.own x)) x (.ins C dx [])) := fun b y e => by
  rw [upd_ne (ne_of_none e nx), upd_ne (ne_of_none e ndx)]
  exact e
section
variable {P : Program} {w : World} {K : PySem.W.Frag} {mg : Str → Option Value} {base : Heap}
def sp_wline : Sp := fun vs H Q _ => ∃ (y : V) (xs : List Dd), vs = [y] ∧ ToAt H y xs ∧ TxE xs ∧ ∀ H', Same H H' → Q (.str (ent xs)) H'
theorem cal_write_line (T : Tp K mg) : Cal P w K mg base 3 "write_line" sp_wline := by
  obtain ⟨fd, F⟩ := f_write_line T
  refine cal_of F (g_write_line T) (b_write_line F) sc_write_line (fun vs H Q E h => ?_) (fun cdv A outer s H vs Q E hr h => ?_)
  · obtain ⟨y, xs, rfl, _⟩ := h
    rfl
  · obtain ⟨y, xs, rfl, ty, tx, q⟩ := h
    refine ⟨_, (pss_cons (ps_set (i := 1) sc_write_line.nd rfl (.inl rfl) (pe_ifExp (pt_val (pe_callB call_isK (by rfl) (z_isinstance T) bb_isinstance (pa_cons (pv 0) (pa_cons (pe_bltn (v := .ty "list") (by rfl) (z_list T) bb_list rfl) pa_nil)))) (pv 0) (pe_lst (pa_cons (pv 0) pa_nil))))
      (pss_one (ps_ret (pe_bm PySem.F.plainAttrs_str PySem.F.slot_str_join PySem.F.type_str_join mt_join pe_str (pa_cons (pe_lc (own := [("deed", 2)]) (g := gName 2) (tt := tYes) rfl sc_write_line.nd (pi_list (pv 1)) (blkOk_by (N := N_write_line) (sc := defScope s_write_line) (by decide +kernel)) (fun _ _ _ _ _ => (pg_name (i := 2) sc_write_line.nd rfl (.inl rfl))) (fun _ _ _ _ _ => pts_nil) (fun _ _ _ _ _ => (C8.pe_c (cal_write_deed T) hr (by decide) rfl (pa_cons (pv 2) pa_nil)))) pa_nil))))), ?_⟩
    rcases ty with ⟨t, x, ex, rfl, ht⟩ | ⟨n1, D, ts, rfl, hD, R⟩
    · refine ⟨_, rfl, .ref t, "list", "tuple", rfl, .base (.tup ht), by decide, by decide, _, rfl, iteF ⟨_, rfl, (by show 1 ≤ sizeLine; decide), fun D nD => ?_⟩⟩
      have sG := same_upd (o := .lst [.ref t]) nD
      have hD : upd H D (.lst [.ref t]) D = some (.lst [.ref t]) := upd_same
      have R : Rows (upd H D (.lst [.ref t])) [.ref t] (xs.map Dd.row) := by
        rw [ex]
        exact .cons ⟨t, rfl, sG _ _ ht⟩ .nil
      generalize upd H D (.lst [.ref t]) = G at sG hD R ⊢
      obtain ⟨ts, ets⟩ : ∃ ts, ts = [V.ref t] := ⟨_, rfl⟩
      rw [← ets] at hD R
      refine ⟨rfl, _, rfl, D, rfl, ⟨_, .inl (.inl hD)⟩, fun E2 nE => ?_⟩
      have lx := R.len
      rw [List.length_map] at lx
      have few := tx.le
      refine lc_pure xs (walk_listN (K := K) (a := D) (xs := ts) lx) (fun x => some x.line) (SV V.str) (fun _ h => h) nE (by omega) (fun H' s => .inl (.inl (s _ _ hD))) ?_ ?_
      · rintro i x u G1 G2 hx sg ⟨rfl, hu⟩ Good Bad kt kf
        obtain ⟨tz, rfl, htz⟩ := rows_at R hu hx
        exact ⟨rfl, yes_i (iteT ⟨_, rfl, tz, x, rfl, sg _ _ htz, tx.tx x (List.mem_of_getElem? hx), fun H' s' => kt _ _ _ rfl s' rfl⟩)⟩
      · intro Hc acc sbc dg pg
        have ea := paired_enc pg
        rw [show xs.filterMap (fun x => some x.line) = xs.map Dd.line from List.filterMap_eq_map ▸ rfl] at ea
        subst ea
        refine ⟨"; ", E2, xs.map Dd.line, rfl, rfl, .inl (.inl (.inl dg)), ?_, q _ (sG.trans sbc)⟩
        have := sumB 66 (lines_len tx.tx)
        rw [List.length_map] at this
        rw [List.length_map, semi_two]
        omega
    · refine ⟨_, rfl, .ref D, "list", "list", rfl, .base (.lst hD), by decide, by decide, _, rfl, iteT ⟨_, rfl, ?_⟩⟩
      have sG : Same H H := Same.refl _
      refine ⟨rfl, _, rfl, D, rfl, ⟨_, .inl (.inl hD)⟩, fun E2 nE => ?_⟩
      have lx := R.len
      rw [List.length_map] at lx
      have few := tx.le
      refine lc_pure xs (walk_listN (K := K) (a := D) (xs := ts) lx) (fun x => some x.line) (SV V.str) (fun _ h => h) nE (by omega) (fun H' s => .inl (.inl (s _ _ hD))) ?_ ?_
      · rintro i x u G1 G2 hx sg ⟨rfl, hu⟩ Good Bad kt kf
        obtain ⟨tz, rfl, htz⟩ := rows_at R hu hx
        exact ⟨rfl, yes_i (iteT ⟨_, rfl, tz, x, rfl, sg _ _ htz, tx.tx x (List.mem_of_getElem? hx), fun H' s' => kt _ _ _ rfl s' rfl⟩)⟩
      · intro Hc acc sbc dg pg
        have ea := paired_enc pg
        rw [show xs.filterMap (fun x => some x.line) = xs.map Dd.line from List.filterMap_eq_map ▸ rfl] at ea
        subst ea
        refine ⟨"; ", E2, xs.map Dd.line, rfl, rfl, .inl (.inl (.inl dg)), ?_, q _ (sG.trans sbc)⟩
        have := sumB 66 (lines_len tx.tx)
        rw [List.length_map] at this
        rw [List.length_map, semi_two]
        omega
def sp_page (K : PySem.W.Frag) : Sp := fun vs H Q _ => ∃ (a : LgP) (L : Lg) (m : Md) (ms : List Md), vs = [.ref a.p] ∧ LgAt K H a L ∧ L.done.length ≤ 100 ∧ (∀ xs ∈ L.done, TxE xs) ∧ L.webs = m :: ms ∧ m.last.natAbs < 1000000000 ∧ ∀ H', Same H H' → Q (.str (pgT m.last L.done)) H'
theorem cal_page (T : Tp K mg) : Cal P w K mg base 8 "page" (sp_page K) := by
  obtain ⟨fd, F⟩ := f_page T
  refine cal_of F (g_page T) (b_page F) sc_page (fun vs H Q E h => ?_) (fun cdv A outer s H vs Q E hr h => ?_)
  · obtain ⟨a, L, m, ms, rfl, _⟩ := h
    rfl
  · obtain ⟨a, L, m, ms, rfl, A1, few, tx, ew, lm, q⟩ := h
    refine ⟨_, (pss_cons (ps_set (i := 1) sc_page.nd rfl (.inl rfl) (pe_lst (pa_cons (pe_joined (.cons pe_str (.cons (pe_fmt (pe_fld (C8.pe_mt (MetX.calm (metx_Log_as_of T)) hr (by decide) (pv 0) (pa_cons pe_int pa_nil)) rfl)) .nil))) pa_nil)))
      (pss_cons (ps_expr (pe_bm PySem.F.plainAttrs_list PySem.F.slot_list_extend PySem.F.type_list_extend mt_extend (pv 1) (pa_cons (pe_lc (own := [("done", 2)]) (g := gName 2) (tt := tYes) rfl sc_page.nd (pi_list (C8.pe_mt0 (met_Log_deeds T) hr (by decide) (pv 0))) (blkOk_by (N := N_page) (sc := defScope s_page) (by decide +kernel)) (fun _ _ _ _ _ => (pg_name (i := 2) sc_page.nd rfl (.inl rfl))) (fun _ _ _ _ _ => pts_nil) (fun _ _ _ _ _ => (C8.pe_c (cal_write_line T) hr (by decide) rfl (pa_cons (pv 2) pa_nil)))) pa_nil)))
      (pss_one (ps_ret (pe_bm PySem.F.plainAttrs_str PySem.F.slot_str_join PySem.F.type_str_join mt_join pe_str (pa_cons (pv 1) pa_nil)))))), ?_⟩
    refine ⟨_, rfl, by decide +kernel, _, rfl, a.p, a.dx, _, rfl, A1.obj, lf_no (by decide +kernel), a, L, .int 0, rfl, A1, rfl, by omega, (fun h => by
      rw [show whB 0 (L.done.length : Nat) (.int 0) = true from decide_eq_true (show (0 : Int) ≤ 0 ∧ (0 : Int) ≤ (L.done.length : Nat) by omega)] at h
      cases h), fun i m1 ei em q0 W0 => ?_⟩
    have i0 : i = 0 := by
      have := V.int.inj ei
      omega
    subst i0
    rw [ew] at em
    cases em
    obtain ⟨dx, c1, c2, c3, ws, bs, h1, _⟩ := W0.ex
    refine ⟨q0, CW K, dx, _, _, rfl, h1, cl_Web T, na_by T, wf_by, .inr ⟨m.last, rfl, small_log lm, _, rfl, ?_, ?_⟩⟩
    · rw [first_app, sizeLine_eq]
      have := headT_len lm
      omega
    rw [first_app]
    refine ⟨(by show 1 ≤ sizeLine; decide), fun D nD => ?_⟩
    have s1 := same_upd (o := .lst [.str (headT m.last)]) nD
    have hD : upd H D (.lst [.str (headT m.last)]) D = some (.lst [.str (headT m.last)]) := upd_same
    generalize upd H D (.lst [.str (headT m.last)]) = H1 at s1 hD ⊢
    have A2 := A1.same s1
    have ne : ∀ xs ∈ L.done, xs ≠ [] := fun xs h => (tx xs h).ne
    refine ⟨_, rfl, .inl ⟨rfl, _, .inl (.inl hD)⟩, _, rfl, a.p, a.dx, _, rfl, A2.obj, lf_no (by decide +kernel), a, L, rfl, A2, by omega, ne, fun D2 acc H2 s2 nD2 hD2 PD => ⟨D2, rfl, ⟨_, .inl (.inl hD2)⟩, fun E2 nE => ?_⟩⟩
    have la := PD.length
    refine lc_pure L.done (walk_listN (K := K) (a := D2) (xs := acc) la) (fun xs => some (ent xs)) (SV V.str) (fun _ h => h) nE (by omega) (fun H' s => .inl (.inl (s _ _ hD2))) ?_ ?_
    · rintro i xs u G1 G2 hx sg ⟨rfl, hu⟩ Good Bad kt kf
      obtain ⟨ys, ey, tl, _⟩ := paired_at PD hu
      rw [hx] at ey
      cases ey
      exact ⟨rfl, yes_i (iteT ⟨_, rfl, u, xs, rfl, to_same tl sg, tx xs (List.mem_of_getElem? hx), fun H' s' => kt _ _ _ rfl s' rfl⟩)⟩
    · intro H3 acc3 s3 d3 pg
      have ea := paired_enc pg
      rw [show L.done.filterMap (fun xs => some (ent xs)) = L.done.map ent from List.filterMap_eq_map ▸ rfl] at ea
      subst ea
      have hD3 := s3 _ _ (s2 _ _ hD)
      have nDH := nD
      refine ⟨D, E2, _, _, rfl, rfl, hD3, d3, ?_, ?_⟩
      · rw [List.length_map, List.length_map]
        exact Nat.le_of_lt (small1000 (by show 1 + L.done.length ≤ 1000; omega))
      have s4 : Same H (upd H3 D (.lst ([V.str (headT m.last)] ++ (L.done.map ent).map V.str))) := same_put ((s1.trans s2).trans s3) nDH
      refine ⟨rfl, _, rfl, "\n", D, headT m.last :: L.done.map ent, rfl, rfl, .inl (.inl (.inl upd_same)), ?_, q _ s4⟩
      have := sumB 272 (pg_lines lm tx)
      rw [List.length_cons, List.length_map] at this
      rw [List.length_cons, List.length_map, nl_one]
      omega
theorem mak_Log (T : Tp K mg) : Mak P w K mg base 6 "Log" (CL K) (sp_lini K) [] := by
  obtain ⟨fd, F⟩ := f_Log_UinitU T
  obtain ⟨ds, hv, hb⟩ := F.binds1 (ps := ["self", "by"]) 2 1 (by simp) rfl fun T kV doc pm an cdv ct us its h1 h2 => match us, its, h1, h2 with
    | [_, _], [_], _, _ => ⟨_, rfl, rfl⟩
  exact ⟨_, fd, ["self", "by"], ds, mk_Log T, fn_lini T F, g_Log T, hb, hv⟩
def sp_bgl (K : PySem.W.Frag) : Sp := fun vs H Q _ => ∃ l : Int, vs = [.str (headT l)] ∧ 1 ≤ l ∧ l ≤ 1000 ∧ ∀ (a : LgP) (H' : Hp), Same H H' → H a.p = none → H a.w = none → H a.d = none → H a.u = none → LgAt K H' a (Lg.new l) → Q (.ref a.p) H'
theorem cal_begun_log (T : Tp K mg) (TO : TboX w K) : Cal P w K mg base 9 "begun_log" (sp_bgl K) := by
  obtain ⟨fd, F⟩ := f_begun_log T
  refine cal_of F (g_begun_log T) (b_begun_log F) sc_begun_log (fun vs H Q E h => ?_) (fun cdv A outer s H vs Q E hr h => ?_)
  · obtain ⟨l, rfl, _⟩ := h
    rfl
  · obtain ⟨l, rfl, l1, l2, q⟩ := h
    refine ⟨_, (pss_cons (ps_asg (pe_bm PySem.F.plainAttrs_str PySem.F.slot_str_split PySem.F.type_str_split mt_split (pv 0) (pa_cons pe_str pa_nil)) (pg_headL rfl (pgs_cons (pg_name (i := 1) sc_begun_log.nd rfl (.inl rfl)) (pgs_star (pg_name (i := 2) sc_begun_log.nd rfl (.inl rfl))))))
      (pss_cons (ps_if (pt_cmpR op_ne (pv 1) pe_str (nomark _)) (pss_one ps_never) pss_nil)
      (pss_cons (ps_set (i := 3) sc_begun_log.nd rfl (.inl rfl) (C8.pe_c (cal_read_words T TO) hr (by decide) rfl (pa_cons (pe_tup (pa_cons pe_str pa_nil)) (pa_cons (pv 2) pa_nil))))
      (pss_one (ps_try_thru0 (pss_one (ps_ret (C8.pe_mk (mak_Log T) hr (by decide) rfl (pa_cons (pe_ix ix_list (pv 3) pe_int (fun _ _ => rfl)) pa_nil))))))))), ?_⟩
    have lh := headT_len (l := l) (by omega)
    refine ⟨_, rfl, rfl, _, _, rfl, rfl, by decide +kernel, by rw [sizeLine_eq]; omega, fun p np => ?_⟩
    rw [headT_back]
    have sp := same_upd (o := .lst ([("log" : Str), numS l].map V.str)) np
    refine ⟨p, .str "log", [.str (numS l)], rfl, .inl (.inl upd_same), (by show 1 ≤ 1000; decide), fun D nD => ?_⟩
    have sD := same_upd (o := .lst [.str (numS l)]) nD
    have hD : (upd (upd H p (.lst ([("log" : Str), numS l].map V.str))) D (.lst [.str (numS l)])) D = some (.lst [.str (numS l)]) := upd_same
    have s2 := sp.trans sD
    generalize upd (upd H p (.lst ([("log" : Str), numS l].map V.str))) D (.lst [.str (numS l)]) = H2 at hD s2 ⊢
    refine ⟨_, _, rfl, _, _, rfl, rfl, _, rfl, rfl, _, rfl, ?_⟩
    rw [decide_eq_true (rfl : V.str "log" = V.str "log")]
    refine iteF ⟨(by show 1 ≤ sizeLine; decide), fun t nt => ?_⟩
    have s3 := same_upd (o := .tup [.str "number"]) nt
    have ht : upd H2 t (.tup [.str "number"]) t = some (.tup [.str "number"]) := upd_same
    refine ⟨_, rfl, t, D, ["number"], [.int l], rfl, (fun H1 s1 => .inl (.inl (s1 _ _ ht))), s3 _ _ hD, .cons (kd_num (by omega)) .nil, by decide, fun D3 H3 s4 nD3 hD3 => ?_⟩
    have sA : Same H H3 := (s2.trans s3).trans s4
    refine ⟨_, rfl, D3, _, 0, _, rfl, rfl, .inl (.inl hD3), atI_nat (j := 0) rfl, fun p dx np ndx npd => ⟨p, dx, l, rfl, upd_same, l1, l2, fun al H4 ep sb nw nd nu A => ⟨rfl, ?_⟩⟩⟩
    subst ep
    have sm := made_same (C := CL K) np ndx
    have s5 : Same H3 H4 := fun z o e => sb _ _ (sm _ _ e) (ne_of_none e np)
    exact q al H4 (sA.trans s5) (sA.free np) (sA.free (sm.free nw)) (sA.free (sm.free nd)) (sA.free (sm.free nu)) A
def sp_dln (K : PySem.W.Frag) : Sp := fun vs H Q _ => ∃ (a : LgP) (L : Lg) (m m' : Md) (xs : List Dd), vs = [.ref a.p, .str (ent xs)] ∧ LgAt K H a L ∧ (∃ ms, L.webs = ms ++ [m]) ∧ TxE xs ∧ L.done.length ≤ 900 ∧ dealt m xs = .ok m' ∧ ∀ (u' : Addr) (H' : Hp), Did a H H' → H u' = none → LgAt K H' { a with u := u' } (L.doo m' xs) → Q .non H'
theorem cal_do_line (T : Tp K mg) (TO : TboX w K) : Cal P w K mg base 15 "do_line" (sp_dln K) := by
  obtain ⟨fd, F⟩ := f_do_line T
  refine cal_of F (g_do_line T) (b_do_line F) sc_do_line (fun vs H Q E h => ?_) (fun cdv A outer s H vs Q E hr h => ?_)
  · obtain ⟨a, L, m, m', xs, rfl, _⟩ := h
    rfl
  · obtain ⟨a, L, m, m', xs, rfl, A1, hms, tx, few, em, q⟩ := h
    refine ⟨_, (pss_cons (ps_setLc (i := 2) (own := [("text", 3)]) (g := gName 3) (tt := tYes) rfl sc_do_line.nd rfl rfl (sw_true rfl rfl rfl (by decide +kernel)) (pi_list (pe_bm PySem.F.plainAttrs_str PySem.F.slot_str_split PySem.F.type_str_split mt_split (pv 1) (pa_cons pe_str pa_nil))) (blkOk_by (N := N_do_line) (sc := defScope s_do_line) (by decide +kernel)) (fun _ _ _ _ _ => (pg_name (i := 3) sc_do_line.nd rfl (.inl rfl))) (fun _ _ _ _ _ => pts_nil) (fun _ _ _ _ _ => (C8.pe_c (cal_read_deed T TO) hr (by decide) rfl (pa_cons (pv 3) pa_nil))))
      (pss_one (ps_if (pt_cmpR op_eq (pe_callB call_len_seq (by rfl) (z_len T) bb_len (pa_cons (pv 2) pa_nil)) pe_int (nomark _)) (pss_one (ps_expr (C8.pe_mt (MetX.calm (metx_Log_do T TO)) hr (by decide) (pv 0) (pa_cons (pe_ix ix_list (pv 2) pe_int (fun _ _ => rfl)) pa_nil)))) (pss_one (ps_expr (C8.pe_mt (MetX.calm (metx_Log_deal T TO)) hr (by decide) (pv 0) (pa_cons (pv 2) pa_nil))))))), ?_⟩
    have le := tx.le
    have ln := ent_len tx
    refine ⟨_, rfl, rfl, _, _, rfl, rfl, by decide +kernel, by rw [sizeLine_eq]; omega, fun p np => ⟨p, rfl, ⟨_, .inl (.inl upd_same)⟩, fun D nD => ?_⟩⟩
    rw [ent_back tx]
    rw [ent_back tx] at nD
    have sp := same_upd (o := .lst ((xs.map Dd.line).map V.str)) np
    have hp : upd H p (.lst ((xs.map Dd.line).map V.str)) p = some (.lst ((xs.map Dd.line).map V.str)) := upd_same
    generalize upd H p (.lst ((xs.map Dd.line).map V.str)) = H1 at sp hp nD ⊢
    refine lc_pure xs (walk_listN (K := K) (a := p) (xs := (xs.map Dd.line).map V.str) (by rw [List.length_map, List.length_map])) (fun x => some x) (SR Dd.row) sr_k nD (by omega) (fun H' s => .inl (.inl (s _ _ hp))) ?_ ?_
    · rintro i x u G1 G2 hx sg ⟨rfl, hu⟩ Good Bad kt kf
      have hu : ((xs.map Dd.line).map V.str)[i]? = some u := hu
      rw [List.getElem?_map, List.getElem?_map, hx] at hu
      cases hu
      exact ⟨rfl, yes_i (iteT ⟨_, rfl, x, rfl, tx.tx x (List.mem_of_getElem? hx), fun t H' s' n ht => kt _ _ _ rfl s' ⟨t, rfl, ht⟩⟩)⟩
    · intro H2 acc s2 d2 pg
      rw [show xs.filterMap (fun x => some x) = xs from List.filterMap_some] at pg
      have R := paired_rows pg
      have la := pg.length
      have sA := sp.trans s2
      have A2 := A1.same sA
      refine ⟨_, rfl, D, _, rfl, .inl (.inl (.inl d2)), rfl, _, rfl, ?_⟩
      by_cases one : xs.length = 1
      · rw [decide_eq_true (show V.int ((acc.length : Nat) : Int) = V.int 1 from congrArg V.int (by omega))]
        obtain ⟨x, rfl⟩ := List.length_eq_one_iff.1 one
        obtain ⟨v, rfl⟩ := List.length_eq_one_iff.1 (la.trans one)
        cases R with
        | cons h _ =>
        obtain ⟨t, rfl, ht⟩ := h
        refine iteT ⟨_, rfl, a.p, a.dx, _, rfl, A2.obj, lf_no (by decide +kernel), _, rfl, D, _, 0, _, rfl, rfl, .inl (.inl d2), atI_nat (j := 0) rfl, a, L, m, t, x, rfl, A2, hms, ht, tx.fine x List.mem_cons_self, few, (fun r er => ?_), fun m2 em2 q0 u' H3 D' nu A3 W3 => ?_⟩
        · rw [em] at er
          cases er
        · rw [em] at em2
          cases em2
          exact q u' H3 (fun b z e n1 n2 n3 => D' b z (sA _ _ e) n1 n2 n3) (sA.free nu) A3
      · rw [decide_eq_false (show ¬ V.int ((acc.length : Nat) : Int) = V.int 1 from fun z => by have := V.int.inj z; omega)]
        have n0 : xs.length ≠ 0 := fun z => tx.ne (List.length_eq_zero_iff.1 z)
        refine iteF ⟨_, rfl, a.p, a.dx, _, rfl, A2.obj, lf_no (by decide +kernel), _, rfl, a, L, m, D, acc, xs, rfl, A2, hms, d2, R, by omega, by omega, tx.fine, few, (fun r er => ?_), fun m2 em2 q0 u' H3 D' nu A3 W3 => ?_⟩
        · rw [em] at er
          cases er
        · rw [em] at em2
          cases em2
          exact q u' H3 (fun b z e n1 n2 n3 => D' b z (sA _ _ e) n1 n2 n3) (sA.free nu) A3
def sp_rpg (K : PySem.W.Frag) : Sp := fun vs H Q _ => ∃ (_ : L0) (ss : List (List Dd × Md)), vs = [.str (pgT md0.last (ss.map (·.1)))] ∧ ss.length ≤ 100 ∧ Chn8 md0 ss ∧ (∀ r ∈ ss, TxE r.1) ∧ ∀ (a : LgP) (H' : Hp), Same H H' → H a.p = none → H a.w = none → H a.d = none → H a.u = none → LgAt K H' a (lgOf ss []) → Q (.ref a.p) H'
theorem cal_read_page (T : Tp K mg) (TO : TboX w K) : Cal P w K mg base 17 "read_page" (sp_rpg K) := by
  obtain ⟨fd, F⟩ := f_read_page T
  refine cal_of F (g_read_page T) (b_read_page F) sc_read_page (fun vs H Q E h => ?_) (fun cdv A outer s H vs Q E hr h => ?_)
  · obtain ⟨i0, ss, rfl, _⟩ := h
    rfl
  · obtain ⟨i0, ss, rfl, few, ch, tx, q⟩ := h
    refine ⟨_, (pss_cons (ps_asg (pe_bm PySem.F.plainAttrs_str PySem.F.slot_str_split PySem.F.type_str_split mt_split (pv 0) (pa_cons pe_str pa_nil)) (pg_headL rfl (pgs_cons (pg_name (i := 1) sc_read_page.nd rfl (.inl rfl)) (pgs_star (pg_name (i := 2) sc_read_page.nd rfl (.inl rfl))))))
      (pss_cons (ps_set (i := 3) sc_read_page.nd rfl (.inl rfl) (C8.pe_c (cal_begun_log T TO) hr (by decide) rfl (pa_cons (pv 1) pa_nil)))
      (pss_cons (ps_for PassesOwn.never rfl (pi_enumS (by rfl) (z_enumerate T) (pa_cons (pv 2) pa_nil) (pk_cons pe_int pk_nil)) (pg_tup rfl (pgs_cons (pg_name (i := 4) sc_read_page.nd rfl (.inl rfl)) (pgs_cons (pg_name (i := 5) sc_read_page.nd rfl (.inl rfl)) pgs_nil)))
        (pss_one (ps_try_thru0 (pss_one (ps_expr (C8.pe_c (cal_do_line T TO) hr (by decide) rfl (pa_cons (pv 3) (pa_cons (pv 5) pa_nil))))))))
      (pss_one (ps_ret (pv 3)))))), ?_⟩
    have l1 := L0.lo
    have l2 := L0.hi
    have lm : (md0 : Md).last.natAbs < 1000000000 := by
      show (L0.l).natAbs < _
      omega
    have txs : ∀ xs ∈ ss.map (·.1), TxE xs := fun xs h => by
      obtain ⟨r, hr, rfl⟩ := List.mem_map.1 h
      exact tx r hr
    have ln := pgT_len lm txs
    rw [List.length_map] at ln
    refine ⟨_, rfl, rfl, _, _, rfl, rfl, by decide +kernel, by rw [sizeLine_eq]; omega, fun p np => ?_⟩
    rw [pgT_back _ txs]
    have sp := same_upd (o := .lst ((headT (md0 : Md).last :: (ss.map (·.1)).map ent).map V.str)) np
    refine ⟨p, .str (headT (md0 : Md).last), ((ss.map (·.1)).map ent).map V.str, rfl, .inl (.inl upd_same), (by rw [List.length_map, List.length_map, List.length_map]; omega), fun D nD => ?_⟩
    have sD := same_upd (o := .lst (((ss.map (·.1)).map ent).map V.str)) nD
    have hD : (upd (upd H p (.lst ((headT (md0 : Md).last :: (ss.map (·.1)).map ent).map V.str))) D (.lst (((ss.map (·.1)).map ent).map V.str))) D = some (.lst (((ss.map (·.1)).map ent).map V.str)) := upd_same
    have s2 := sp.trans sD
    generalize upd (upd H p (.lst ((headT (md0 : Md).last :: (ss.map (·.1)).map ent).map V.str))) D (.lst (((ss.map (·.1)).map ent).map V.str)) = H2 at hD s2 ⊢
    refine ⟨_, _, rfl, _, _, rfl, rfl, _, rfl, L0.l, rfl, l1, l2, fun al H3 s3 n1 n2 n3 n4 A => ?_⟩
    have eN : (ss.take 0) = [] := rfl
    have lD : (((ss.map (·.1)).map ent).map V.str).length = ss.length := by rw [List.length_map, List.length_map, List.length_map]
    refine ⟨_, rfl, D, _, 1, rfl, rfl, .inl (.inl (s3 _ _ hD)), by decide, by decide, for_it (walk_enumC (K := K) (c := 1) (a := D) (xs := ((ss.map (·.1)).map ent).map V.str)) (fun i σ H' => ∃ (u : Addr) (y4 y5 : Option V), σ = [some (.str (pgT (md0 : Md).last (ss.map (·.1)))), some (.str (headT (md0 : Md).last)), some (.ref D), some (.ref al.p), y4, y5] ∧ Same H2 H' ∧ H2 u = none ∧ LgAt K H' { al with u := u } (lgOf (ss.take i) [])) ⟨al.u, none, none, rfl, s3, n4, A⟩ (fun i σ H' _ ⟨_, _, _, _, s', _⟩ => .inl (.inl (s' _ _ hD))) ?_ ?_⟩
    · rintro i x σ H4 H5 hi ⟨u, y4, y5, rfl, s4, nu, A4⟩ ⟨TT, x1, x2, rfl, nT, rfl, hx, hy⟩
      rw [lD] at hi
      obtain ⟨r, hr⟩ : ∃ r, ss[i]? = some r := ⟨_, List.getElem?_eq_getElem hi⟩
      have hx : some (V.int (1 + (i : Int))) = some x1 := hx
      have hy : (((ss.map (·.1)).map ent).map V.str)[i]? = some x2 := hy
      rw [List.getElem?_map, List.getElem?_map, List.getElem?_map, hr] at hy
      cases hx
      cases hy
      have sT := same_upd (o := .tup [.int (1 + (i : Int)), .str (ent r.1)]) nT
      have lt : (lgOf (ss.take i) []).done.length ≤ 900 := by
        show ((ss.take i).map (·.1)).length ≤ 900
        rw [List.length_map, List.length_take]
        omega
      refine ⟨TT, _, rfl, .inl (.inl upd_same), rfl, _, _, rfl, _, _, rfl, rfl, _, rfl, _, rfl, { al with u := u }, _, _, r.2, r.1, rfl, A4.same sT, webs_lastL (ss.take i) [], tx r (List.mem_of_getElem? hr), lt, chn_at ch hr, fun u' H6 D' nu' A6 => ⟨u', _, _, rfl, fun b o e => D' b o (sT _ _ (s4 _ _ e)) (ne_of_none e n1) (ne_of_none e n2) (ne_of_none e n3), s4.free (sT.free nu'), ?_⟩⟩
      rw [take_snocP hr, ← doo_lg]
      exact A6
    · rintro σ H4 ⟨u, y4, y5, rfl, s4, nu, A4⟩
      rw [lD, List.take_length] at A4
      exact ⟨_, rfl, q { al with u := u } H4 (s2.trans s4) (s2.free n1) (s2.free n2) (s2.free n3) (s2.free nu) A4⟩
end
end Tw

set_option maxHeartbeats 4000000
namespace Tw
open PySem PySem.Spec PyProof.Rows L2
/-! the line of a deed, by the law -/
section
variable {P : Program} {w : World} {K : PySem.W.Frag} {mg : Str → Option Value} {base : Heap}
def sp_ldline : Sp := fun vs H Q _ => ∃ (t : Addr) (x : Dd), vs = [.ref t] ∧ H t = some (.tup x.row) ∧ x.Tx ∧ ∀ H', Same H H' → Q (.str x.line) H'
theorem cal__law_deed_line (T : Tp K mg) : Cal P w K mg base 2 "_law_deed_line" sp_ldline := by
  obtain ⟨fd, F⟩ := f__law_deed_line T
  refine cal_of F (g__law_deed_line T) (b__law_deed_line F) sc__law_deed_line (fun vs H Q E h => ?_) (fun cdv A outer s H vs Q E hr h => ?_)
  · obtain ⟨t, x, rfl, _⟩ := h
    rfl
  · obtain ⟨t, x, rfl, ht, tx, q⟩ := h
    refine ⟨_, (pss_one (ps_ret (pe_bm PySem.F.plainAttrs_str PySem.F.slot_str_join PySem.F.type_str_join mt_join pe_str (pa_cons (pe_lc (own := [("_law_one", 1)]) (g := gName 1) (tt := tYes) rfl sc__law_deed_line.nd (pi_tup (pv 0)) (blkOk_by (N := N__law_deed_line) (sc := defScope s__law_deed_line) (by decide +kernel)) (fun _ _ _ _ _ => (pg_name (i := 1) sc__law_deed_line.nd rfl (.inl rfl))) (fun _ _ _ _ _ => pts_nil) (fun _ _ _ _ _ => (pe_ifExp (pt_cmpR op_isN (pv 1) pe_non (nomark _)) pe_str (pe_callTy (call_str_int.or SkE.call_str_str) (by rfl) (z_str T) bb_str (pa_cons (pv 1) pa_nil))))) pa_nil)))), ?_⟩
    refine ⟨rfl, _, rfl, t, rfl, ⟨_, .inl (.inl ht)⟩, fun D nD => ?_⟩
    refine lc_pure x.row (walk_tup (K := K) (a := t) (xs := x.row)) (fun v => some (wrt v)) (SV V.str) (fun _ h => h) nD (Nat.le_trans (row_few x) (by decide)) (fun H' s => .inl (.inl (s _ _ ht))) ?_ ?_
    · rintro i v u H1 H2 hv s1 ⟨rfl, hu⟩ Good Bad kt kf
      rw [hv] at hu
      cases hu
      have g := fun (z : V) (e : z = V.str (wrt v)) => kt z (wrt v) _ rfl (Same.refl _) e
      refine ⟨rfl, yes_i (iteT ?_)⟩
      rcases tx.row v (List.mem_of_getElem? hv) with rfl | ⟨j, rfl, l⟩ | ⟨z, rfl, n⟩
      · exact ⟨_, rfl, rfl, _, rfl, iteT (g _ rfl)⟩
      · exact ⟨_, rfl, rfl, _, rfl, iteF ⟨_, rfl, .inl ⟨j, rfl, small_log l, g _ rfl⟩⟩⟩
      · exact ⟨_, rfl, rfl, _, rfl, iteF ⟨_, rfl, .inr ⟨z, rfl, g _ rfl⟩⟩⟩
    · intro H1 acc s1 d1 p1
      have ea := paired_enc p1
      rw [show x.row.filterMap (fun v => some (wrt v)) = x.row.map wrt from List.filterMap_eq_map ▸ rfl] at ea
      subst ea
      refine ⟨" ", D, x.row.map wrt, rfl, rfl, .inl (.inl (.inl d1)), ?_, q H1 s1⟩
      have := sum_len (ps := x.row.map wrt) fun p hp => by
        obtain ⟨v, hv, rfl⟩ := List.mem_map.1 hp
        exact wrt_len (tx.row v hv)
      rw [List.length_map] at this
      have l := row_few x
      rw [List.length_map, show (" " : Str).length = 1 by decide +kernel]
      omega
end
end Tw

set_option maxHeartbeats 4000000
namespace Tw
open PySem PySem.Spec PyProof.Rows L2
/-! the law's own pages -/
section
variable {P : Program} {w : World} {K : PySem.W.Frag} {mg : Str → Option Value} {base : Heap}
def sp_leline : Sp := fun vs H Q _ => ∃ (y : V) (xs : List Dd), vs = [y] ∧ ToAt H y xs ∧ TxE xs ∧ ∀ H', Same H H' → Q (.str (ent xs)) H'
theorem cal__law_entry_line (T : Tp K mg) : Cal P w K mg base 4 "_law_entry_line" sp_leline := by
  obtain ⟨fd, F⟩ := f__law_entry_line T
  refine cal_of F (g__law_entry_line T) (b__law_entry_line F) sc__law_entry_line (fun vs H Q E h => ?_) (fun cdv A outer s H vs Q E hr h => ?_)
  · obtain ⟨y, xs, rfl, _⟩ := h
    rfl
  · obtain ⟨y, xs, rfl, ty, tx, q⟩ := h
    refine ⟨_, (pss_cons (ps_if (pt_val (pe_callB call_isK (by rfl) (z_isinstance T) bb_isinstance (pa_cons (pv 0) (pa_cons (pe_bltn (v := .ty "list") (by rfl) (z_list T) bb_list rfl) pa_nil)))) (pss_one (ps_ret (pe_bm PySem.F.plainAttrs_str PySem.F.slot_str_join PySem.F.type_str_join mt_join pe_str (pa_cons (pe_lc (own := [("_law_deed", 1)]) (g := gName 1) (tt := tYes) rfl sc__law_entry_line.nd (pi_list (pv 0)) (blkOk_by (N := N__law_entry_line) (sc := defScope s__law_entry_line) (by decide +kernel)) (fun _ _ _ _ _ => (pg_name (i := 1) sc__law_entry_line.nd rfl (.inl rfl))) (fun _ _ _ _ _ => pts_nil) (fun _ _ _ _ _ => (C8.pe_c (cal__law_deed_line T) hr (by decide) rfl (pa_cons (pv 1) pa_nil)))) pa_nil)))) pss_nil)
      (pss_one (ps_ret (C8.pe_c (cal__law_deed_line T) hr (by decide) rfl (pa_cons (pv 0) pa_nil))))), ?_⟩
    rcases ty with ⟨t, x, rfl, rfl, ht⟩ | ⟨n1, D, ts, rfl, hD, R⟩
    · refine ⟨_, rfl, .ref t, "list", "tuple", rfl, .base (.tup ht), by decide, by decide, _, rfl, iteF ⟨_, rfl, t, x, rfl, ht, tx.tx x List.mem_cons_self, fun H' s' => ?_⟩⟩
      rw [← ent_one]
      exact q H' s'
    · refine ⟨_, rfl, .ref D, "list", "list", rfl, .base (.lst hD), by decide, by decide, _, rfl, iteT ?_⟩
      have sG : Same H H := Same.refl _
      refine ⟨rfl, _, rfl, D, rfl, ⟨_, .inl (.inl hD)⟩, fun E2 nE => ?_⟩
      have lx := R.len
      rw [List.length_map] at lx
      have few := tx.le
      refine lc_pure xs (walk_listN (K := K) (a := D) (xs := ts) lx) (fun x => some x.line) (SV V.str) (fun _ h => h) nE (by omega) (fun H' s => .inl (.inl (s _ _ hD))) ?_ ?_
      · rintro i x u G1 G2 hx sg ⟨rfl, hu⟩ Good Bad kt kf
        obtain ⟨tz, rfl, htz⟩ := rows_at R hu hx
        exact ⟨rfl, yes_i (iteT ⟨_, rfl, tz, x, rfl, sg _ _ htz, tx.tx x (List.mem_of_getElem? hx), fun H' s' => kt _ _ _ rfl s' rfl⟩)⟩
      · intro Hc acc sbc dg pg
        have ea := paired_enc pg
        rw [show xs.filterMap (fun x => some x.line) = xs.map Dd.line from List.filterMap_eq_map ▸ rfl] at ea
        subst ea
        refine ⟨"; ", E2, xs.map Dd.line, rfl, rfl, .inl (.inl (.inl dg)), ?_, q _ (sG.trans sbc)⟩
        have := sumB 66 (lines_len tx.tx)
        rw [List.length_map] at this
        rw [List.length_map, semi_two]
        omega
def sp_lpage : Sp := fun vs H Q _ => ∃ (_ : L0) (M : Addr → Prop) (st : Addr) (rs : List V) (ss : List (List Dd × Md)), vs = [.int L0.l, .ref st] ∧ H st = some (.lst rs) ∧ Paired (StAt M H) rs (rowsOf ss) ∧ ss.length ≤ 100 ∧ (∀ r ∈ ss, TxE r.1) ∧ ∀ H', Same H H' → Q (.str (pgT L0.l (ss.map (·.1)))) H'
theorem cal__law_page (T : Tp K mg) : Cal P w K mg base 5 "_law_page" sp_lpage := by
  obtain ⟨fd, F⟩ := f__law_page T
  refine cal_of F (g__law_page T) (b__law_page F) sc__law_page (fun vs H Q E h => ?_) (fun cdv A outer s H vs Q E hr h => ?_)
  · obtain ⟨_, M, st, rs, ss, rfl, _⟩ := h
    rfl
  · obtain ⟨i0, M, st, rs, ss, rfl, hst, PR, few, tx, q⟩ := h
    have hu := hu_of hr
    refine ⟨_, (pss_cons (ps_set (i := 2) sc__law_page.nd rfl (.inl rfl) (pe_op op_cat (pe_lst (pa_cons (pe_op op_add_str pe_str (pe_callTy call_str_int (by rfl) (z_str T) bb_str (pa_cons (pv 0) pa_nil))) pa_nil)) (pe_lc (own := [("_law_pair", 3)]) (g := gName 3) (tt := tYes) rfl sc__law_page.nd (pi_list (pe_slice sl_list (pv 1) (po_some pe_int) po_none)) (blkOk_by (N := N__law_page) (sc := defScope s__law_page) (by decide +kernel)) (fun _ _ _ _ _ => (pg_name (i := 3) sc__law_page.nd rfl (.inl rfl))) (fun _ _ _ _ _ => pts_nil) (fun _ _ _ _ _ => (C8.pe_c (cal__law_entry_line T) hr (by decide) rfl (pa_cons (pe_ix (ix_tupK (K := K) rfl) (pv 3) pe_int (fun _ _ => rfl)) pa_nil))))))
      (pss_one (ps_ret (pe_bm PySem.F.plainAttrs_str PySem.F.slot_str_join PySem.F.type_str_join mt_join pe_str (pa_cons (pv 2) pa_nil))))), ?_⟩
    have l1 := L0.lo
    have l2 := L0.hi
    have lm : (L0.l).natAbs < 1000000000 := by omega
    cases PR with
    | cons hv0 P4 =>
    rename_i v0 vs4
    have l3 := numS_len lm
    have l4 : ("log " : Str).length ≤ 4 := by decide +kernel
    refine ⟨_, rfl, L0.l, rfl, small_log lm, ("log " : Str), numS L0.l, rfl, rfl, Nat.le_of_lt (small1000 (by omega)), ?_⟩
    rw [← headT_app]
    refine ⟨(by show 1 ≤ sizeLine; decide), fun A1 nA => ?_⟩
    have s1 := same_upd (o := .lst [.str (headT L0.l)]) nA
    have hA : upd H A1 (.lst [.str (headT L0.l)]) A1 = some (.lst [.str (headT L0.l)]) := upd_same
    have hst1 := s1 _ _ hst
    generalize upd H A1 (.lst [.str (headT L0.l)]) = H1 at s1 hA hst1 ⊢
    refine ⟨_, rfl, 1, rfl, st, _, rfl, .inl (.inl hst1), fun r nr => ?_⟩
    rw [cut_suf1]
    have s2 := same_upd (o := .lst vs4) nr
    have hr4 : (upd H1 r (.lst vs4)) r = some (.lst vs4) := upd_same
    have hA2 := s2 _ _ hA
    generalize upd H1 r (.lst vs4) = H2 at s2 hr4 hA2 ⊢
    refine ⟨r, rfl, ⟨_, .inl (.inl hr4)⟩, fun D2 nD2 => ?_⟩
    have P5 : Paired (StAt M H2) vs4 (ss.map fun r => ((some r.1, r.2) : Rw8)) := Paired.mono (fun _ _ h => h.same (s1.trans s2)) P4
    have l5 : vs4.length = ss.length := by rw [P5.length, List.length_map]
    refine lc_pure ss (walk_listN (K := K) (a := r) (xs := vs4) l5) (fun r => some (ent r.1)) (SV V.str) (fun _ h => h) nD2 (by omega) (fun H' s => .inl (.inl (s _ _ hr4))) ?_ ?_
    · rintro i x u G1 G2 hx sg ⟨rfl, hu⟩ Good Bad kt kf
      obtain ⟨r0, e0, t, y, dm, rfl, ht, o, u, b, X, off, en⟩ := paired_at P5 hu
      rw [List.getElem?_map, hx] at e0
      cases e0
      exact ⟨rfl, yes_i (iteT ⟨_, rfl, t, _, 0, _, rfl, rfl, .inl (.inl (sg _ _ ht)), atI_nat (j := 0) rfl, y, x.1, rfl, to_same en.1 sg, tx x (List.mem_of_getElem? hx), fun H' s' => kt _ _ _ rfl s' rfl⟩)⟩
    · intro H3 acc3 s3 d3 pg
      have ea := paired_enc pg
      rw [show ss.filterMap (fun r => some (ent r.1)) = (ss.map (·.1)).map ent from by rw [List.map_map]; exact List.filterMap_eq_map ▸ rfl] at ea
      subst ea
      have le : (ss.map (·.1)).length = ss.length := List.length_map _
      refine ⟨A1, D2, _, _, rfl, rfl, s3 _ _ hA2, d3, ?_, fun N nN => ?_⟩
      · rw [List.length_map, List.length_map, le]
        exact Nat.le_of_lt (small1000 (by show 1 + ss.length ≤ 1000; omega))
      have s4 : Same H (upd H3 N (.lst ([V.str (headT L0.l)] ++ ((ss.map (·.1)).map ent).map V.str))) := ((s1.trans s2).trans s3).trans (same_upd nN)
      have txs : ∀ xs ∈ ss.map (·.1), TxE xs := fun xs h => by
        obtain ⟨r, hr, rfl⟩ := List.mem_map.1 h
        exact tx r hr
      refine ⟨rfl, _, rfl, "\n", N, headT L0.l :: (ss.map fun (r : List Dd × Md) => r.1).map ent, rfl, rfl, .inl (.inl (.inl upd_same)), ?_, q _ s4⟩
      have := sumB 272 (pg_lines lm txs)
      rw [List.length_cons, List.length_map, le] at this
      rw [List.length_cons, List.length_map, nl_one, le]
      omega
end
end Tw

set_option maxHeartbeats 4000000
namespace Tw
open PySem PySem.Spec PyProof.Rows L2
open LamX (ExtN Tabs)
/-! logs side by side -/
section
variable {Ts : List (Addr × Str)} {K : PySem.W.Frag} {O O' M : Addr → Prop} {f c st wt : Addr} {a : LgP} {H H2 : Hp} {ss us : List (List Dd × Md)}
/-- no web stands at a changing place of a log -/
theorem J58.occW [L0] (J : J58 Ts K O f c st wt a H ss us) {y : Addr} (h : Mw f st wt a y) : ∀ dx l o u b, H y ≠ some (.ins (CW K) dx (wf l o u b)) := fun dx l o u b e => by
  obtain ⟨zf, hf⟩ := J.fl.lst
  obtain ⟨vs, h1, _⟩ := J.hst
  obtain ⟨ws, h2, _⟩ := J.hwt
  obtain ⟨xs, h3, _⟩ := J.lg.webs
  obtain ⟨ds, h4, _⟩ := J.lg.done
  obtain ⟨rs, h5, _⟩ := J.lg.und
  rcases h with h | h | h | h | h | h | h <;> rw [h] at e
  · rw [hf] at e
    cases e
  · rw [h1] at e
    cases e
  · rw [h2] at e
    cases e
  · rw [J.lg.obj] at e
    injection e with e
    injection e with _ _ e3
    exact nof e3.symm
  · rw [h3] at e
    cases e
  · rw [h4] at e
    cases e
  · rw [h5] at e
    cases e
/-- a log stays while another one goes: M are the places of that one -/
theorem J58.beside [L0] (J : J58 Ts K O f c st wt a H ss us) (k : KmL M H H2) (sub : ∀ y, M y → y = f ∨ O y) (noW : ∀ y, M y → ∀ dx l o u b, H y ≠ some (.ins (CW K) dx (wf l o u b))) (F : Flow H2 f c) (tab : Tabs Ts H2) (g : ∀ y, O' y → O y ∨ NoT H y) (oo : ∀ y, O' y → ∃ o, H2 y = some o ∧ (∀ zs, o ≠ .tup zs) ∧ ∀ ps, o ≠ .tbl ps) : J58 Ts K O' f c st wt a H2 ss us := by
  obtain ⟨vs, h1, P1⟩ := J.hst
  obtain ⟨ws, h2, P2⟩ := J.hwt
  obtain ⟨zf, hf⟩ := J.fl.lst
  obtain ⟨⟨f1, f2, f3, f4, f5⟩, cc, sx, wx⟩ := J.ap
  have mz : KmL (Mz O f st wt a) H H2 := fun y o e t n => k _ _ e t fun h => (sub y h).elim (fun h => n (.inl (.inl h))) fun h => n (.inr h)
  have nM : ∀ {y : Addr}, Mw f st wt a y → y ≠ f → ¬ M y := fun m n h => (sub _ h).elim n fun h => J.od _ h m
  have gg : ∀ y, Mz O' f st wt a y → Mz O f st wt a y ∨ NoT H y := fun y h => h.elim (fun h => .inl (.inl h)) fun h => (g y h).imp .inr id
  have rows : ∀ {xs : List V} {rs : List Rw8}, Paired (StAt (Mz O f st wt a) H) xs rs → Paired (StAt (Mz O' f st wt a) H2) xs rs := fun P => Paired.mono (fun _ _ h => h.km mz J.nt gg) P
  have kt : Kt H H2 := fun y zs e => k _ _ e (fun ps z => nomatch z) fun h => (sub y h).elim (fun h => J.nt y (.inl (.inl h)) zs e) fun h => J.nt y (.inr h) zs e
  refine ⟨F, J.lg.keep ⟨kt, fun q dx l o u b e => k _ _ e (fun ps z => nomatch z) fun h => noW _ h dx l o u b e⟩ (fun o e => ?_) (fun x xs hx e => k _ _ e (fun ps z => nomatch z) ?_), ⟨vs, k _ _ h1 (fun ps z => nomatch z) (nM (.inr (.inl rfl)) f1.symm), rows P1⟩, ⟨ws, k _ _ h2 (fun ps z => nomatch z) (nM (.inr (.inr (.inl rfl))) f2.symm), rows P2⟩, J.ap, tab, J.gs, J.gu, oo, fun y h m => ?_⟩
  · have e2 := J.lg.obj
    rw [e] at e2
    cases e2
    exact k _ _ J.lg.obj (fun ps z => nomatch z) (nM (.inr (.inr (.inr (.inl rfl)))) (J.npf hf))
  · rcases hx with h | h | h <;> subst h
    · exact nM (.inr (.inr (.inr (.inr (.inl rfl))))) f3.symm
    · exact nM (.inr (.inr (.inr (.inr (.inr (.inl rfl)))))) f4.symm
    · exact nM (.inr (.inr (.inr (.inr (.inr (.inr rfl)))))) f5.symm
  · rcases g y h with e | e
    · exact J.od y e m
    · obtain ⟨o, e2, _, n2⟩ := J.occ (.inl m)
      obtain ⟨ps, e3⟩ := e _ e2
      exact n2 ps e3
/-- other places beside the same log -/
theorem J58.others [L0] (J : J58 Ts K O f c st wt a H ss us) (e : ∀ y, O' y ↔ O y) : J58 Ts K O' f c st wt a H ss us := by
  rw [show O' = O from funext fun y => propext (e y)]
  exact J
end
/-- the places of the others -/
def Ot (f : Addr) (n : Nat) (S W : Nat → Addr) (A : Nat → LgP) (i : Nat) (y : Addr) : Prop := y ≠ f ∧ ∃ j, j < n ∧ j ≠ i ∧ Mw f (S j) (W j) (A j) y
/-- several logs, each with the law's rows -/
def J60 [L0] (K : PySem.W.Frag) (f c : Addr) (n : Nat) (S W : Nat → Addr) (A : Nat → LgP) (H : Hp) (D : Nat → List (List Dd × Md) × List (List Dd × Md)) : Prop := ∀ i, i < n → J58 (tb8 K) K (Ot f n S W A i) f c (S i) (W i) (A i) H (D i).1 (D i).2
def put8 {α : Type} (g : Nat → α) (i : Nat) (x : α) : Nat → α := fun j => if j = i then x else g j
theorem put_at {α : Type} {g : Nat → α} {i : Nat} {x : α} : put8 g i x i = x := if_pos rfl
theorem put_ne {α : Type} {g : Nat → α} {i j : Nat} {x : α} (h : j ≠ i) : put8 g i x j = g j := if_neg h
section
variable {K : PySem.W.Frag} {f c : Addr} {n : Nat} {S W : Nat → Addr} {A : Nat → LgP} {H H2 : Hp} {D : Nat → List (List Dd × Md) × List (List Dd × Md)}
theorem ot_put {i : Nat} {a' : LgP} : ∀ y, Ot f n S W (put8 A i a') i y ↔ Ot f n S W A i y := fun y => by
  constructor
  · rintro ⟨h, j, l, ne, m⟩
    rw [put_ne ne] at m
    exact ⟨h, j, l, ne, m⟩
  · rintro ⟨h, j, l, ne, m⟩
    exact ⟨h, j, l, ne, by rw [put_ne ne]; exact m⟩
/-- a turn of one of them -/
theorem J60.turn [L0] (J : J60 K f c n S W A H D) {i : Nat} (hi : i < n) {a' : LgP} {ss us : List (List Dd × Md)} (R : J58 (tb8 K) K (Ot f n S W A i) f c (S i) (W i) a' H2 ss us) (k : KmL (Mw f (S i) (W i) (A i)) H H2) (g : ∀ y, Mw f (S i) (W i) a' y → Mw f (S i) (W i) (A i) y ∨ NoT H y) : J60 K f c n S W (put8 A i a') H2 (put8 D i (ss, us)) := fun j hj => by
  by_cases e : j = i
  · subst e
    rw [put_at, put_at]
    exact R.others ot_put
  · rw [put_ne e, put_ne e]
    refine (J j hj).beside k (fun y h => ?_) (fun y h => (J i hi).occW h) R.fl R.tab (fun y h => ?_) (fun y h => ?_)
    · by_cases z : y = f
      · exact .inl z
      · exact .inr ⟨z, i, hi, fun z => e z.symm, h⟩
    · obtain ⟨z, l, hl, ne, m⟩ := h
      by_cases e2 : l = i
      · subst e2
        rw [put_at] at m
        exact (g y m).imp (fun m => ⟨z, l, hl, ne, m⟩) id
      · rw [put_ne e2] at m
        exact .inl ⟨z, l, hl, ne, m⟩
    · obtain ⟨z, l, hl, ne, m⟩ := h
      by_cases e2 : l = i
      · subst e2
        rw [put_at] at m
        exact R.occ (.inl m)
      · rw [put_ne e2] at m
        exact R.oo y ⟨z, l, hl, e2, m⟩
theorem J60.same [L0] (J : J60 K f c n S W A H D) (s : Same H H2) : J60 K f c n S W A H2 D := fun i hi => (J i hi).same s
theorem J60.sbf [L0] (J : J60 K f c n S W A H D) (s : Sb f H H2) (F : Flow H2 f c) : J60 K f c n S W A H2 D := fun i hi => (J i hi).sbf s F
end
section
variable {Ts : List (Addr × Str)} {K : PySem.W.Frag} {O O' : Addr → Prop} {f c st wt st' wt' : Addr} {a b : LgP} {H H2 : Hp} {ss us : List (List Dd × Md)}
/-- the places of a log that is new since H -/
structure New8 (H : Hp) (st wt : Addr) (b : LgP) : Prop where
  fr : H st = none ∧ H wt = none ∧ H b.p = none ∧ H b.w = none ∧ H b.d = none ∧ H b.u = none
  ss : st ≠ wt ∧ st ≠ b.w ∧ st ≠ b.d ∧ st ≠ b.u
  ww : wt ≠ b.w ∧ wt ≠ b.d ∧ wt ≠ b.u
theorem New8.ap (N : New8 H st wt b) (F : Flow H f c) : Ap8 f c st wt b := by
  obtain ⟨zf, hf⟩ := F.lst
  obtain ⟨zc, hc⟩ := F.cells
  obtain ⟨n1, n2, n3, n4, n5, n6⟩ := N.fr
  exact ⟨⟨ne_of_none hf n1, ne_of_none hf n2, ne_of_none hf n4, ne_of_none hf n5, ne_of_none hf n6⟩, ⟨ne_of_none hc n1, ne_of_none hc n2, ne_of_none hc n4, ne_of_none hc n5, ne_of_none hc n6⟩, N.ss, N.ww⟩
theorem New8.mw (N : New8 H st wt b) {y : Addr} (h : Mw f st wt b y) : y = f ∨ H y = none := by
  obtain ⟨n1, n2, n3, n4, n5, n6⟩ := N.fr
  rcases h with h | h | h | h | h | h | h
  · exact .inl h
  · exact .inr (h ▸ n1)
  · exact .inr (h ▸ n2)
  · exact .inr (h ▸ n3)
  · exact .inr (h ▸ n4)
  · exact .inr (h ▸ n5)
  · exact .inr (h ▸ n6)
/-- a log begins -/
theorem J58.start [L0] {l t d o u e : Addr} (F : Flow H f c) (s : Same H H2) (N : New8 H l wt b) (A : LgAt K H2 b (Lg.new L0.l)) (hl : H2 l = some (.lst [.ref t])) (ht : H2 t = some (.tup [.non, .ref d])) (X : MdX H2 d o u e (md0)) (hw : H2 wt = some (.lst [])) (off : ¬ Mz O f l wt b d ∧ ¬ Mz O f l wt b o ∧ ¬ Mz O f l wt b u ∧ ¬ Mz O f l wt b e) (tab : Tabs Ts H2) (oo : ∀ y, O y → ∃ o, H y = some o ∧ (∀ zs, o ≠ .tup zs) ∧ ∀ ps, o ≠ .tbl ps) (nf : ¬ O f) : J58 Ts K O f c l wt b H2 [] [] :=
  ⟨F.same s, A, ⟨[.ref t], hl, .cons ⟨t, .non, d, rfl, ht, o, u, e, X, off, rfl⟩ .nil⟩, ⟨[], hw, .nil⟩, N.ap F, tab, (fun r hr => nomatch hr), (fun r hr => nomatch hr), (fun y h => let ⟨o, e, n⟩ := oo y h; ⟨o, s _ _ e, n⟩), fun y h m => by
    rcases N.mw m with z | z
    · exact nf (z ▸ h)
    · obtain ⟨o, e, _⟩ := oo y h
      rw [z] at e
      cases e⟩
/-- a log's twin, with copies of the law's rows; O' are the places beside it -/
theorem J58.copy [L0] (J : J58 Ts K O f c st wt a H ss us) (s : Same H H2) (N : New8 H st' wt' b) (A : LgAt K H2 b (lgOf ss us)) (hs : ∀ vs, H st = some (.lst vs) → H2 st' = some (.lst vs)) (hw : ∀ vs, H wt = some (.lst vs) → H2 wt' = some (.lst vs)) (g : ∀ y, O' y → Mz O f st wt a y ∨ NoT H y) (oo : ∀ y, O' y → ∃ o, H2 y = some o ∧ (∀ zs, o ≠ .tup zs) ∧ ∀ ps, o ≠ .tbl ps) (od : ∀ y, O' y → ¬ Mw f st' wt' b y) : J58 Ts K O' f c st' wt' b H2 ss us := by
  obtain ⟨vs, h1, P1⟩ := J.hst
  obtain ⟨ws, h2, P2⟩ := J.hwt
  have rows : ∀ {xs : List V} {rs : List Rw8}, Paired (StAt (Mz O f st wt a) H) xs rs → Paired (StAt (Mz O' f st' wt' b) H2) xs rs := fun P => Paired.mono (fun _ _ h => h.km (fun y o e _ _ => s _ _ e) J.nt fun y m => m.elim (fun m => (N.mw m).elim (fun z => .inl (.inl (.inl z))) fun z => .inr fun o e => by rw [z] at e; cases e) (g y)) P
  exact ⟨J.fl.same s, A, ⟨vs, hs _ h1, rows P1⟩, ⟨ws, hw _ h2, rows P2⟩, N.ap J.fl, tabs_same J.tab s, J.gs, J.gu, oo, od⟩
end
end Tw

set_option maxHeartbeats 4000000
namespace Tw
open PySem PySem.Spec PyProof.Rows L2
open LamX (ExtN Tabs)
/-! k63: a log, and two read from its page -/
section
variable {Ts : List (Addr × Str)} {K : PySem.W.Frag} {O : Addr → Prop} {f c st wt st' wt' : Addr} {a b a1 a1' a2 : LgP} {H H2 : Hp} {ss us s1 u1 s1' u1' : List (List Dd × Md)} {L : Lg}
/-- the places of a log -/
def Lp (a : LgP) (y : Addr) : Prop := y = a.p ∨ y = a.w ∨ y = a.d ∨ y = a.u
theorem LgAt.occ (A : LgAt K H b L) {y : Addr} (h : Lp b y) : ∃ o, H y = some o ∧ (∀ zs, o ≠ .tup zs) ∧ ∀ ps, o ≠ .tbl ps := by
  rcases h with h | h
  · subst h
    exact ⟨_, A.obj, (fun zs z => nomatch z), fun ps z => nomatch z⟩
  · obtain ⟨xs, e⟩ := A.m3 h
    exact ⟨_, e, (fun zs z => nomatch z), fun ps z => nomatch z⟩
/-- a log stays while another goes -/
theorem LgAt.beside [L0] (A : LgAt K H b L) (J : J58 Ts K O f c st wt a H ss us) (k : KmL (Mw f st wt a) H H2) (n : ∀ y, Lp b y → ¬ Mw f st wt a y) : LgAt K H2 b L := by
  refine A.keep ⟨J.kt k, fun q dx l o u b e => k _ _ e (fun ps z => nomatch z) fun h => J.occW h dx l o u b e⟩ (fun o e => ?_) fun x xs hx e => k _ _ e (fun ps z => nomatch z) (n _ (.inr hx))
  have e2 := A.obj
  rw [e] at e2
  cases e2
  exact k _ _ e (fun ps z => nomatch z) (n _ (.inl rfl))
/-- the first log, with its rows, and the second one read, while the first one read goes -/
structure Z63 [L0] (Ts : List (Addr × Str)) (K : PySem.W.Frag) (f c st : Addr) (a a2 : LgP) (ss us : List (List Dd × Md)) (st' wt' : Addr) (a1 : LgP) (H : Hp) (s1 u1 : List (List Dd × Md)) : Prop where
  J : J58 Ts K (fun _ => False) f c st' wt' a1 H s1 u1
  lg : LgAt K H a (lgOf ss us)
  lg2 : LgAt K H a2 (lgOf ss [])
  hst : ∃ vs, H st = some (.lst vs) ∧ Paired (StAt (fun y => Mw f st' wt' a1 y ∨ M3 a2 y) H) vs (rowsOf ss)
  n0 : ∀ y, Lp a y → ¬ Mw f st' wt' a1 y
  n2 : ∀ y, Lp a2 y → ¬ Mw f st' wt' a1 y
  ns : ¬ Mw f st' wt' a1 st
theorem Z63.step [L0] (Z : Z63 Ts K f c st a a2 ss us st' wt' a1 H s1 u1) (J' : J58 Ts K (fun _ => False) f c st' wt' a1' H2 s1' u1') (k : KmL (Mw f st' wt' a1) H H2) (g : ∀ y, Mw f st' wt' a1' y → Mw f st' wt' a1 y ∨ NoT H y) : Z63 Ts K f c st a a2 ss us st' wt' a1' H2 s1' u1' := by
  obtain ⟨vs, h1, P1⟩ := Z.hst
  have off : ∀ {y : Addr} {o : HO}, H y = some o → (∀ ps, o ≠ .tbl ps) → ¬ Mw f st' wt' a1 y → ¬ Mw f st' wt' a1' y := fun e t n h => (g _ h).elim n fun z => let ⟨ps, e2⟩ := z _ e; t ps e2
  have offL : ∀ {b : LgP} {L : Lg}, LgAt K H b L → (∀ y, Lp b y → ¬ Mw f st' wt' a1 y) → ∀ y, Lp b y → ¬ Mw f st' wt' a1' y := fun A n y h => by
    obtain ⟨o, e, _, t⟩ := A.occ h
    exact off e t (n y h)
  exact ⟨J', Z.lg.beside Z.J k Z.n0, Z.lg2.beside Z.J k Z.n2, ⟨vs, k _ _ h1 (fun ps z => nomatch z) Z.ns, Paired.mono (fun _ _ h => h.km (fun y o e t n => k _ _ e t fun h => n (.inl h)) (fun y m => m.elim (fun m => Z.J.nt y (.inl m)) (Z.lg2.m3nt y)) fun y m => m.elim (fun m => (g y m).imp .inl id) fun m => .inl (.inr m)) P1⟩, offL Z.lg Z.n0, offL Z.lg2 Z.n2, off h1 (fun ps z => nomatch z) Z.ns⟩
theorem not_ext (s : ExtN H H2) {y : Addr} (n : H2 y = none) : NoT H y := fun o e => Classical.byContradiction fun z => by
  have := s _ _ e (fun ps h => z ⟨ps, h⟩)
  rw [n] at this
  cases this
/-- both are read, and the rows copied -/
theorem Z63.start [L0] (J : J58 Ts K (fun _ => False) f c st wt a H ss us) (s : ExtN H H2) (tab : Tabs Ts H2) (A1 : LgAt K H2 a1 (lgOf ss [])) (A2 : LgAt K H2 a2 (lgOf ss [])) (e1 : ∀ y, Lp a1 y → H y = none) (e2 : ∀ y, Lp a2 y → H y = none) (e12 : ∀ y z, Lp a1 y → Lp a2 z → y ≠ z)
    (hs : ∀ vs, H st = some (.lst vs) → H2 st' = some (.lst vs)) (hw : H2 wt' = some (.lst [])) (ns : NoT H st') (nw : NoT H wt') (sw : st' ≠ wt') (s1 : ¬ Lp a1 st' ∧ ¬ Lp a2 st') (w1 : ¬ Lp a1 wt' ∧ ¬ Lp a2 wt') : Z63 Ts K f c st a a2 ss us st' wt' a1 H2 ss [] := by
  obtain ⟨vs, h1, P1⟩ := J.hst
  obtain ⟨zf, hf⟩ := J.fl.lst
  obtain ⟨zc, hc⟩ := J.fl.cells
  have ne : ∀ {y z : Addr} {o : HO}, H y = some o → (∀ ps, o ≠ .tbl ps) → NoT H z → y ≠ z := fun e t n h => by
    obtain ⟨ps, e2⟩ := n _ (h ▸ e)
    exact t ps e2
  have no1 : ∀ {y : Addr}, Lp a1 y → NoT H y := fun h o e => by
    rw [e1 _ h] at e
    cases e
  have mw : ∀ y, Mw f st' wt' a1 y → y = f ∨ NoT H y := fun y h => by
    rcases h with h | h | h | h
    · exact .inl h
    · exact .inr (h ▸ ns)
    · exact .inr (h ▸ nw)
    · exact .inr (no1 h)
  have km : KmL (Mz (fun _ => False) f st wt a) H H2 := fun y o e t _ => s _ _ e t
  have rows : ∀ {xs : List V} {rs : List Rw8}, Paired (StAt (Mz (fun _ => False) f st wt a) H) xs rs → Paired (StAt (Mz (fun _ => False) f st' wt' a1) H2) xs rs := fun P => Paired.mono (fun _ _ h => h.km km J.nt fun y m => m.elim (fun m => (mw y m).imp (fun z => .inl (.inl z)) id) fun z => z.elim) P
  have rows2 : ∀ {xs : List V} {rs : List Rw8}, Paired (StAt (Mz (fun _ => False) f st wt a) H) xs rs → Paired (StAt (fun y => Mw f st' wt' a1 y ∨ M3 a2 y) H2) xs rs := fun P => Paired.mono (fun _ _ h => h.km km J.nt fun y m => m.elim (fun m => (mw y m).imp (fun z => .inl (.inl z)) id) fun m => .inr fun o e => by rw [e2 y (.inr m)] at e; cases e) P
  have tl : ∀ {zs : List V} (ps : _), HO.lst zs ≠ .tbl ps := fun ps z => nomatch z
  have Je := J.ext s tab
  refine ⟨⟨Je.fl, A1, ⟨vs, hs _ h1, rows P1⟩, ⟨[], hw, .nil⟩, ⟨⟨ne hf tl ns, ne hf tl nw, ne hf tl (no1 (.inr (.inl rfl))), ne hf tl (no1 (.inr (.inr (.inl rfl)))), ne hf tl (no1 (.inr (.inr (.inr rfl))))⟩, ⟨ne hc tl ns, ne hc tl nw, ne hc tl (no1 (.inr (.inl rfl))), ne hc tl (no1 (.inr (.inr (.inl rfl)))), ne hc tl (no1 (.inr (.inr (.inr rfl))))⟩, ⟨sw, fun z => s1.1 (.inr (.inl z)), fun z => s1.1 (.inr (.inr (.inl z))), fun z => s1.1 (.inr (.inr (.inr z)))⟩, ⟨fun z => w1.1 (.inr (.inl z)), fun z => w1.1 (.inr (.inr (.inl z))), fun z => w1.1 (.inr (.inr (.inr z)))⟩⟩, tab, J.gs, (fun r hr => nomatch hr), (fun y h => h.elim), fun y h => h.elim⟩, Je.lg, A2, ⟨vs, s _ _ h1 tl, rows2 P1⟩, fun y h m => ?_, fun y h m => ?_, fun m => ?_⟩
  · obtain ⟨o, e, _, t⟩ := J.lg.occ h
    rcases mw y m with z | z
    · subst z
      rcases h with h | h | h | h
      · exact J.npf hf h.symm
      · exact J.ap.ff.2.2.1 h
      · exact J.ap.ff.2.2.2.1 h
      · exact J.ap.ff.2.2.2.2 h
    · exact ne e t z rfl
  · rcases m with m | m | m | m
    · rw [m] at h
      have := e2 _ h
      rw [hf] at this
      cases this
    · exact s1.2 (m ▸ h)
    · exact w1.2 (m ▸ h)
    · exact e12 _ _ m h rfl
  · rcases mw _ m with z | z
    · exact J.ap.ff.1 z.symm
    · exact ne h1 tl z rfl
theorem Z63.same [L0] (Z : Z63 Ts K f c st a a2 ss us st' wt' a1 H s1 u1) (s : Same H H2) : Z63 Ts K f c st a a2 ss us st' wt' a1 H2 s1 u1 := Z.step (Z.J.same s) (.same s) fun _ h => .inl h
theorem Z63.sbf [L0] (Z : Z63 Ts K f c st a a2 ss us st' wt' a1 H s1 u1) (s : Sb f H H2) (F : Flow H2 f c) : Z63 Ts K f c st a a2 ss us st' wt' a1 H2 s1 u1 := Z.step (Z.J.sbf s F) (.sbf s) fun _ h => .inl h
theorem Z63.ext [L0] (Z : Z63 Ts K f c st a a2 ss us st' wt' a1 H s1 u1) (s : ExtN H H2) (t : Tabs Ts H2) : Z63 Ts K f c st a a2 ss us st' wt' a1 H2 s1 u1 := Z.step (Z.J.ext s t) (.ext s) fun _ h => .inl h
/-- a log that goes back through its entries, with the rows beside it -/
structure B63 [L0] (K : PySem.W.Frag) (a b : LgP) (R : Addr) (vs : List V) (ss us : List (List Dd × Md)) (H : Hp) (i : Nat) : Prop where
  lg : LgAt K H b (lgOf (ss.take i) (ss.drop i).reverse)
  la : LgAt K H a (lgOf ss us)
  hR : H R = some (.lst vs)
  pR : Paired (StAt (M3 b) H) vs (rowsOf ss)
  nR : ¬ M3 b R
  na : ∀ y, Lp a y → ¬ M3 b y
  gs : ∀ r ∈ ss, Gr8 r
  few : ss.length ≤ 100
theorem B63.km [L0] {R : Addr} {vs : List V} {i j : Nat} (B : B63 K a b R vs ss us H i) (k : KmL (M3 b) H H2) (A : LgAt K H2 b (lgOf (ss.take j) (ss.drop j).reverse)) : B63 K a b R vs ss us H2 j := by
  have kt : Kt H H2 := fun z zs e => k _ _ e (fun ps z => nomatch z) fun h => B.lg.m3nt z h zs e
  refine ⟨A, B.la.keep ⟨kt, fun q dx l o u b e => k _ _ e (fun ps z => nomatch z) fun h => ?_⟩ (fun o e => ?_) (fun x xs hx e => k _ _ e (fun ps z => nomatch z) (B.na _ (.inr hx))), k _ _ B.hR (fun ps z => nomatch z) B.nR, Paired.mono (fun _ _ h => h.km k B.lg.m3nt fun y h => .inl h) B.pR, B.nR, B.na, B.gs, B.few⟩
  · obtain ⟨xs, e2⟩ := B.lg.m3 h
    rw [e] at e2
    cases e2
  · have e2 := B.la.obj
    rw [e] at e2
    cases e2
    exact k _ _ e (fun ps z => nomatch z) (B.na _ (.inl rfl))
theorem B63.same [L0] {R : Addr} {vs : List V} {i : Nat} (B : B63 K a b R vs ss us H i) (s : Same H H2) : B63 K a b R vs ss us H2 i := B.km (fun y o e _ _ => s _ _ e) (B.lg.same s)
/-- behind the turns -/
theorem B63.of [L0] {R st' wt' : Addr} {a1 a2 : LgP} {s1 u1 : List (List Dd × Md)} {vs : List V} (Z : Z63 Ts K f c R a a2 ss us st' wt' a1 H s1 u1) (hR : H R = some (.lst vs)) (nR : ¬ M3 a2 R) (na : ∀ y, Lp a y → ¬ M3 a2 y) (gs : ∀ r ∈ ss, Gr8 r) (few : ss.length ≤ 100) : B63 K a a2 R vs ss us H ss.length := by
  obtain ⟨vs', h1, P1⟩ := Z.hst
  rw [hR] at h1
  cases h1
  refine ⟨?_, Z.lg, hR, Paired.mono (fun _ _ h => h.km (fun y o e _ _ => e) (fun y m => m.elim (fun m => Z.J.nt y (.inl m)) (Z.lg2.m3nt y)) fun y m => .inl (.inr m)) P1, nR, na, gs, few⟩
  rw [List.take_length, List.drop_length]
  exact Z.lg2
theorem B63.undo [L0] {R : Addr} {vs : List V} {i : Nat} (B : B63 K a b R vs ss us H (i + 1)) {r : List Dd × Md} (hr : ss[i]? = some r) {ds : List (List Dd)} {xs : List Dd} {ms : List Md} {m : Md} (e1 : (lgOf (ss.take (i + 1)) (ss.drop (i + 1)).reverse).done = ds ++ [xs]) (e2 : (lgOf (ss.take (i + 1)) (ss.drop (i + 1)).reverse).webs = ms ++ [m]) : xs = r.1 ∧ ∀ H2, Und b H H2 → LgAt K H2 b ⟨ms, ds, (lgOf (ss.take (i + 1)) (ss.drop (i + 1)).reverse).und ++ [(xs, m)]⟩ → B63 K a b R vs ss us H2 i := by
  obtain ⟨s0, es, ed, em⟩ := snoc_of e1 e2
  rw [take_snoc hr] at es
  obtain ⟨es1, es2⟩ := List.append_inj' es rfl
  have er : r = (xs, m) := (List.cons.inj es2).1
  subst es1
  refine ⟨by rw [er], fun H2 U A => B.km U.km ?_⟩
  have : (⟨ms, ds, (lgOf (ss.take (i + 1)) (ss.drop (i + 1)).reverse).und ++ [(xs, m)]⟩ : Lg) = lgOf (ss.take i) (ss.drop i).reverse := by
    rw [ed, em, drop_rev hr, er]
    rfl
  rw [this] at A
  exact A
theorem B63.ld [L0] {R : Addr} {vs : List V} {i : Nat} (B : B63 K a b R vs ss us H i) : (lgOf (ss.take i) (ss.drop i).reverse).done.length ≤ 100 := by
  show ((ss.take i).map (·.1)).length ≤ 100
  rw [List.length_map, List.length_take]
  have := B.few
  omega
theorem B63.lu [L0] {R : Addr} {vs : List V} {i : Nat} (B : B63 K a b R vs ss us H i) : (lgOf (ss.take i) (ss.drop i).reverse).und.length ≤ 100 := by
  show (ss.drop i).reverse.length ≤ 100
  rw [List.length_reverse, List.length_drop]
  have := B.few
  omega
theorem B63.at [L0] {R : Addr} {vs : List V} {i j : Nat} (B : B63 K a b R vs ss us H j) (hi : i < ss.length) : ∃ (t dm : Addr) (y : V) (r : List Dd × Md), vs[i + 1]? = some (.ref t) ∧ H t = some (.tup [y, .ref dm]) ∧ ss[i]? = some r ∧ ToAt H y r.1 ∧ r.1.length ≤ 4 ∧ r.1 ≠ [] := by
  have lv := B.pR.length
  rw [rows_len] at lv
  have ev : vs[i + 1]? = some vs[i + 1] := List.getElem?_eq_getElem (by omega)
  obtain ⟨r, hr, t, y, dm, e, ht, o, u, b, X, _, en⟩ := paired_at B.pR ev
  have hr : (ss.map fun r => ((some r.1, r.2) : Rw8))[i]? = some r := hr
  rw [List.getElem?_map] at hr
  obtain ⟨r0, h0, rfl⟩ := Option.map_eq_some_iff.1 hr
  have g := B.gs r0 (List.mem_of_getElem? h0)
  exact ⟨t, dm, y, r0, by rw [ev, e], ht, h0, en.1, g.le, g.ne⟩
end
end Tw

set_option maxHeartbeats 4000000
namespace Tw
open PySem PySem.Spec PyProof.Rows L2
open LamX (ExtN Tabs)
/-! ### the law -/
section
variable {P : Program} {w : World} {K : PySem.W.Frag} {mg : Str → Option Value} {base : Heap}
def sp_law (K : PySem.W.Frag) : Sp := fun vs H Q _ => ∃ (a : Addr) (ns : List Int), vs = [.ref a] ∧ SqL K H a (ns.map V.int) ∧ H (He.cT K ("law", none)).2 = some (.tbl #[]) ∧ H (He.cT K ("_law_log_turn", none)).2 = some (.tbl #[]) ∧ ∀ H', Q (.bl true) H'
theorem ok_law (T : Tp K mg) (TO : TboF w K) (TB : LamX.TabB base mg (He.cT K ("law", none)).1 (He.cT K ("law", none)).2) (TB0 : LamX.TabB base mg (He.cT K ("_law_log_turn", none)).1 (He.cT K ("_law_log_turn", none)).2) {fd : FuncData} (F : FunD K "law" "law" (defArgs s_law) (defBody s_law) (defScope s_law) [] [] (He.ga K "law") fd) : FnOk P w K mg base CX0 20 (He.ga K "law") fd ["_law_script"] (sp_law K) := by
  refine fnok_t8 F sc_law (fun vs H Q E h => ?_) (fun A outer s H vs Q E hr h => ?_)
  · obtain ⟨a, ns, rfl, _⟩ := h
    rfl
  · obtain ⟨a, ns, rfl, hS, hT, hT8, q⟩ := h
    have hu := hu_of hr
    have hu64 := hr.units
    have tb0 : Tabs (tb8 K) H := fun p hp => by
      rcases List.mem_cons.1 hp with h | h
      · exact tabs_new (q := q8) hT8 p (by rw [h]; exact List.mem_cons_self)
      · exact tabs_new (q := qlam) hT p h
    refine ⟨_, (pss_cons (ps_set (i := 1) sc_law.nd rfl (.inl rfl) (C8.pe_c (cal__law_flow T) hr (by decide) rfl (pa_cons (pv 0) pa_nil)))
      (pss_cons (ps_set (i := 2) sc_law.nd rfl (.inl rfl) (pe_op op_add pe_int (C8.pe_c (cal__law_draw T) hr (by decide) rfl (pa_cons (pv 1) (pa_cons pe_int pa_nil)))))
      (pss_cons (ps_set (i := 3) sc_law.nd rfl (.inl rfl) (C8.pe_mk (mak_Log T) hr (by decide) rfl (pa_cons (pv 2) pa_nil)))
      (pss_cons (ps_par (i := 4) (j := 5) (by rfl) sc_law.nd rfl rfl (by decide) rfl rfl (pa_cons (pe_lst (pa_cons (pe_tup (pa_cons pe_non (pa_cons (C8.pe_c (cal__law_model T) hr (by decide) rfl (pa_cons (pv 2) pa_nil)) pa_nil))) pa_nil)) (pa_cons (pe_lst pa_nil) pa_nil)) (by rfl))
      (pss_cons (ps_for PassesOwn.never rfl (pi_range1 rfl (z_range T) (pa_cons (C8.pe_c (cal__law_draw T) hr (by decide) rfl (pa_cons (pv 1) (pa_cons pe_int pa_nil))) pa_nil)) (pg_name (i := 6) sc_law.nd rfl (.inl rfl))
        (pss_one (ps_if (pt_not (pt_val (C8.pe_c (cal__law_log_turn T TO TB0) hr (by decide) rfl (pa_cons (pv 1) (pa_cons (pv 3) (pa_cons (pv 4) (pa_cons (pv 5) pa_nil))))))) (pss_one (ps_ret pe_bl)) pss_nil)))
      (pss_cons (ps_set (i := 7) sc_law.nd rfl (.inl rfl) (C8.pe_c (cal__law_page T) hr (by decide) rfl (pa_cons (pv 2) (pa_cons (pv 4) pa_nil))))
      (pss_cons (ps_if (pt_not (pt_val (C8.pe_c (cal__law_same T) hr (by decide) rfl (pa_cons (C8.pe_c (cal_page T) hr (by decide) rfl (pa_cons (pv 3) pa_nil)) (pa_cons (pv 7) pa_nil))))) (pss_one (ps_ret pe_bl)) pss_nil)
      (pss_cons (ps_asg (pe_tup (pa_cons (C8.pe_c (cal_read_page T TO) hr (by decide) rfl (pa_cons (pv 7) pa_nil)) (pa_cons (C8.pe_c (cal_read_page T TO) hr (by decide) rfl (pa_cons (pv 7) pa_nil)) pa_nil))) (pg_tup rfl (pgs_cons (pg_name (i := 8) sc_law.nd rfl (.inr rfl)) (pgs_cons (pg_name (i := 9) sc_law.nd rfl (.inl rfl)) pgs_nil))))
      (pss_cons (ps_if (PW.pt (pw_or (pt_not (pt_val (C8.pe_c (cal__law_log_stands T) hr (by decide) rfl (pa_cons (pv 8) (pa_cons (pv 4) pa_nil))))) (pw_or1 (pt_not (pt_val (C8.pe_c (cal__law_same T) hr (by decide) rfl (pa_cons (pe_why T TB (List.mem_cons_of_mem _ List.mem_cons_self) (tb8_law (dt__law_log_turn T)) rfl hr (LamX.lamS_by (sc := defScope s_law) (by decide +kernel)) (fun A' outer' s' H' E' f' c' hr tk => (pe_mx0 (metx_Log_redo T) tk (fun _ _ _ _ h => h) hr (by decide) (pv 8)))) (pa_cons (pe_tup (pa_cons pe_non (pa_cons pe_str pa_nil))) pa_nil)))))))) (pss_one (ps_ret pe_bl)) pss_nil)
      (pss_cons (ps_par (i := 10) (j := 11) (by rfl) sc_law.nd rfl rfl (by decide) rfl rfl (pa_cons (pe_callTy call_list_of (by rfl) (z_list T) bb_list (pa_cons (pv 4) pa_nil)) (pa_cons (pe_lst pa_nil) pa_nil)) (by rfl))
      (pss_cons (ps_for PassesOwn.never rfl (pi_range1 rfl (z_range T) (pa_cons (C8.pe_c (cal__law_draw T) hr (by decide) rfl (pa_cons (pv 1) (pa_cons pe_int pa_nil))) pa_nil)) (pg_name (i := 6) sc_law.nd rfl (.inl rfl))
        (pss_one (ps_if (pt_not (pt_val (C8.pe_c (cal__law_log_turn T TO TB0) hr (by decide) rfl (pa_cons (pv 1) (pa_cons (pv 8) (pa_cons (pv 10) (pa_cons (pv 11) pa_nil))))))) (pss_one (ps_ret pe_bl)) pss_nil)))
      (pss_cons (ps_if (pt_not (pt_val (C8.pe_c (cal__law_same T) hr (by decide) rfl (pa_cons (C8.pe_c (cal_page T) hr (by decide) rfl (pa_cons (pv 8) pa_nil)) (pa_cons (C8.pe_c (cal__law_page T) hr (by decide) rfl (pa_cons (pv 2) (pa_cons (pv 10) pa_nil))) pa_nil))))) (pss_one (ps_ret pe_bl)) pss_nil)
      (pss_cons (ps_for PassesOwn.never rfl (pi_range3 rfl (z_range T) (pa_cons (pe_op op_sub (pe_callB call_len_seq (by rfl) (z_len T) bb_len (pa_cons (pv 4) pa_nil)) pe_int) (pa_cons pe_int (pa_cons (pe_un un_neg pe_int) pa_nil)))) (pg_name (i := 12) sc_law.nd rfl (.inl rfl))
        (pss_one (ps_if (pt_not (pt_val (C8.pe_c (cal__law_same T) hr (by decide) rfl (pa_cons (C8.pe_mt0 (MetX.calm (metx_Log_undo T)) hr (by decide) (pv 9)) (pa_cons (pe_ix ix_tup (pe_ix ix_list (pv 4) (pv 12) (fun _ _ => rfl)) pe_int (fun _ _ => rfl)) pa_nil))))) (pss_one (ps_ret pe_bl)) pss_nil)))
      (pss_cons (ps_if (pt_not (pt_val (C8.pe_c (cal__law_same T) hr (by decide) rfl (pa_cons (C8.pe_c (cal_page T) hr (by decide) rfl (pa_cons (pv 9) pa_nil)) (pa_cons (pe_op op_add_str pe_str (pe_callTy call_str_int (by rfl) (z_str T) bb_str (pa_cons (pv 2) pa_nil))) pa_nil))))) (pss_one (ps_ret pe_bl)) pss_nil)
      (pss_one (ps_ret (pe_and (C8.pe_c (cal__law_log_stands T) hr (by decide) rfl (pa_cons (pv 3) (pa_cons (pv 4) pa_nil))) (pe_one (C8.pe_c (cal__law_same T) hr (by decide) rfl (pa_cons (C8.pe_c (cal_page T) hr (by decide) rfl (pa_cons (pv 3) pa_nil)) (pa_cons (pv 7) pa_nil))))))))))))))))))))), ?_⟩
    refine ⟨_, rfl, a, ns, rfl, hS, fun f c H1 s1 nf nc F1 => ?_⟩
    refine ⟨_, rfl, f, c, 1000, rfl, F1, by decide, by decide, fun v0 H1' a0 b0 sb0 F1' => ⟨1, v0, rfl, rfl, ?_⟩⟩
    obtain ⟨i0, hi⟩ : ∃ i : L0, i.l = 1 + v0 := ⟨⟨1 + v0, by omega, by omega⟩, rfl⟩
    show gName 2 (V.int (1 + v0)) _ _ _
    rw [← hi]
    have l1 := i0.lo
    have l2 := i0.hi
    refine ⟨_, rfl, fun p dx np ndx npd => ⟨p, dx, L0.l, rfl, upd_same, l1, l2, fun al H2 ep sb nw nd nu A => ⟨rfl, ?_⟩⟩⟩
    have sp := made_same (C := CL K) np ndx
    subst ep
    have s12 : Same H1' H2 := fun z o e => sb _ _ (sp _ _ e) (ne_of_none e np)
    refine ⟨_, rfl, L0.l, rfl, fun d o u b H3 s3 nd3 no3 nu3 nb3 X => ⟨(by show 2 ≤ sizeLine; decide), fun t nt => ⟨(by show 1 ≤ sizeLine; decide), fun l nl => ⟨Nat.zero_le _, fun W nW => ⟨_, _, rfl, ?_⟩⟩⟩⟩⟩
    have s12' := s12
    obtain ⟨zf, hf⟩ := F1'.lst
    obtain ⟨zf1, hf1⟩ := F1.lst
    have nwH : H1' al.w = none := sp.free nw
    have ndH : H1' al.d = none := sp.free nd
    have nuH : H1' al.u = none := sp.free nu
    obtain ⟨xw, x1, _⟩ := A.webs
    obtain ⟨xd, x2, _⟩ := A.done
    obtain ⟨xu, x3, _⟩ := A.und
    have st := same_upd (o := .tup [.non, .ref d]) nt
    have sl := same_upd (o := .lst [.ref t]) nl
    have sW := same_upd (o := .lst []) nW
    have s36 := (st.trans sl).trans sW
    have lne : ∀ {z : Addr} {x : HO}, H3 z = some x → z ≠ l := fun e => ne_of_none (st _ _ e) nl
    have wne : ∀ {z : Addr} {x : HO}, H3 z = some x → z ≠ W := fun e => ne_of_none (sl _ _ (st _ _ e)) nW
    have offz : ∀ {z : Addr} {x : HO}, H2 z = none → H3 z = some x → ¬ Mz (fun _ => False) f l W al z := fun {z x} n e h => by
      rcases h with h | h
      rotate_left
      · exact h
      rcases h with h | h | h | h | h | h | h
      · rw [h, s12 _ _ hf] at n
        cases n
      · exact lne e h
      · exact wne e h
      · rw [h, A.obj] at n
        cases n
      · rw [h, x1] at n
        cases n
      · rw [h, x2] at n
        cases n
      · rw [h, x3] at n
        cases n
    have N : New8 H1' l W al := by
      refine ⟨⟨(s12.trans (s3.trans st)).free nl, (s12.trans (s3.trans (st.trans sl))).free nW, np, nwH, ndH, nuH⟩, ⟨ne_of_none upd_same nW, (lne (s3 _ _ x1)).symm, (lne (s3 _ _ x2)).symm, (lne (s3 _ _ x3)).symm⟩, ⟨(wne (s3 _ _ x1)).symm, (wne (s3 _ _ x2)).symm, (wne (s3 _ _ x3)).symm⟩⟩
    obtain ⟨ws, w1, _⟩ := X.wd
    obtain ⟨bs, b1, _⟩ := X.bd
    have tab1 : Tabs (tb8 K) H1' := tabs_sb (tabs_same tb0 s1) sb0 hf1
    have J : J58 (tb8 K) K (fun _ => False) f c l W al (upd (upd (upd H3 t (.tup [.non, .ref d])) l (.lst [.ref t])) W (.lst [])) [] [] :=
      J58.start F1' ((s12.trans s3).trans s36) N (A.same (s3.trans s36)) (sW _ _ upd_same) (sW _ _ (sl _ _ upd_same)) (X.same s36) upd_same ⟨offz nd3 X.dk, offz no3 X.own, offz nu3 w1, offz nb3 b1⟩ (tabs_same tab1 ((s12.trans s3).trans s36)) (fun y h => h.elim) fun h => h
    generalize upd (upd (upd H3 t (.tup [.non, .ref d])) l (.lst [.ref t])) W (.lst []) = H4 at J ⊢
    clear offz lne wne N s36 sW sl st
    refine ⟨_, rfl, f, c, 17, rfl, J.fl, by decide, by decide, fun v H5 v0' v17 sb5 F5 => ⟨_, rfl, by omega, by omega, ?_⟩⟩
    have J5 := J.sbf sb5 F5
    refine for_range (lo := 0) (n := v.toNat) (fun i σ H' => ∃ (a' : LgP) (ss us : List (List Dd × Md)) (y6 : Option V), σ = [some (.ref a), some (.ref f), some (.int L0.l), some (.ref al.p), some (.ref l), some (.ref W), y6, none, none, none, none, none, none] ∧ a'.p = al.p ∧ J58 (tb8 K) K (fun _ => False) f c l W a' H' ss us ∧ ss.length + us.length ≤ i ∧ Chn8 md0 (ss ++ us.reverse)) ⟨al, [], [], none, rfl, rfl, J5, Nat.le_refl _, trivial⟩ ?_ ?_
    · rintro i σ H6 hi ⟨a1, ss, us, y6, rfl, ep, J6, le, ch⟩
      exact ⟨_, rfl, _, rfl, _, rfl, _, rfl, i0, _, f, c, l, W, a1, ss, us, by rw [ep]; rfl, J6, by omega, fun a2 H7 ss2 us2 ep2 J7 le2 ch2 _ _ => ⟨_, rfl, iteF ⟨a2, ss2, us2, _, rfl, ep2.trans ep, J7, by omega, ch2 ch⟩⟩⟩
    · clear J5 J
      rintro σ H6 ⟨a0, ss, us, y6, rfl, ep, J, le, ch⟩
      have le : ss.length + us.length ≤ 25 := by omega
      have chs := chn_app ch
      have tx := chn_tx chs md0_ok J.gs
      have txs : ∀ xs ∈ (lgOf ss us).done, TxE xs := fun xs h => by
        obtain ⟨r, hr, rfl⟩ := List.mem_map.1 h
        exact tx r hr
      have lm : (md0 : Md).last.natAbs < 1000000000 := by
        show (L0.l).natAbs < _
        omega
      have ld : (lgOf ss us).done.length ≤ 100 := by
        show (ss.map (·.1)).length ≤ 100
        rw [List.length_map]
        omega
      have ldz : (lgOf ss []).done.length ≤ 100 := ld
      obtain ⟨vs, hl, P1⟩ := J.hst
      have lv : vs.length = ss.length + 1 := by rw [P1.length, rows_len]
      refine ⟨_, rfl, _, rfl, i0, _, l, vs, ss, rfl, hl, P1, by omega, tx, fun H7 s7 => ?_⟩
      refine ⟨_, rfl, a0, lgOf ss us, md0, _, by rw [ep]; rfl, J.lg.same s7, ld, txs, rfl, lm, fun H8 s8 => ⟨_, rfl, _, _, rfl, sm_eq rfl rfl, fun H9 s9 => ⟨_, rfl, iteF ?_⟩⟩⟩
      have s69 := (s7.trans s8).trans s9
      refine ⟨_, rfl, i0, ss, rfl, by omega, chs, tx, fun o1 Ha sa m1 m2 m3 m4 A1a => ⟨_, rfl, i0, ss, rfl, by omega, chs, tx, fun o2 Hb sb n1 n2 n3 n4 A2b => ⟨(by show 2 ≤ sizeLine; decide), fun tt ntt => ⟨tt, _, rfl, .inl (.inl upd_same), rfl, ?_⟩⟩⟩⟩
      have s6b := (s69.trans sa).trans (sb.trans (same_upd (o := .tup [.ref o1.p, .ref o2.p]) ntt))
      have sT := same_upd (o := .tup [.ref o1.p, .ref o2.p]) ntt
      have A1 := A1a.same (sb.trans sT)
      have A2 := A2b.same sT
      have k1 := s69.free m1
      have k2 := s69.free m2
      have k3 := s69.free m3
      have k4 := s69.free m4
      have j1 := (s69.trans sa).free n1
      have j2 := (s69.trans sa).free n2
      have j3 := (s69.trans sa).free n3
      have j4 := (s69.trans sa).free n4
      generalize upd Hb tt (.tup [.ref o1.p, .ref o2.p]) = Hc at s6b A1 A2 ⊢
      have Jc := J.same s6b
      have S1 : S58 K (Mz (fun _ => False) f l W a0) l o1 Hc ss [] := ⟨A1, Jc.hst, Jc.gs⟩
      refine ⟨_, _, rfl, _, _, rfl, rfl, _, rfl, _, rfl, i0, _, l, o1, ss, [], rfl, S1, by omega, fun Hd sd => ⟨_, rfl, iteF ?_⟩⟩
      have Jd := Jc.same sd
      refine ⟨Jd.tab, fun He e7 t7 => ?_⟩
      have Je := Jd.ext e7 t7
      have A1e : LgAt K He o1 (lgOf ss []) := (A1.same sd).keep ⟨fun z zs e => e7 _ _ e (fun ps z => nomatch z), fun q dx l a b c e => e7 _ _ e (fun ps z => nomatch z)⟩ (fun o e => by
        have h := (A1.same sd).obj
        rw [e] at h
        cases h
        exact e7 _ _ e (fun ps z => nomatch z)) fun x xs _ e => e7 _ _ e (fun ps z => nomatch z)
      have A2e : LgAt K He o2 (lgOf ss []) := (A2.same sd).keep ⟨fun z zs e => e7 _ _ e (fun ps z => nomatch z), fun q dx l a b c e => e7 _ _ e (fun ps z => nomatch z)⟩ (fun o e => by
        have h := (A2.same sd).obj
        rw [e] at h
        cases h
        exact e7 _ _ e (fun ps z => nomatch z)) fun x xs _ e => e7 _ _ e (fun ps z => nomatch z)
      refine ⟨_, rfl, o1.p, o1.dx, _, rfl, A1e.obj, lf_no (by decide +kernel), o1, _, rfl, A1e, Nat.le_trans ldz (by decide), (fun _ => fun dd H9 s9 n9 hd => ⟨_, dd, _, _, _, .cNothingBack, rfl, rfl, hd, fun t nt => ?_⟩), fun us0 xs m e => ?_⟩
      rotate_left
      · have := congrArg List.length e
        rw [List.length_append] at this
        exact absurd this (by show ¬ (0 = us0.length + 1); omega)
      refine ⟨(by show 2 ≤ sizeLine; decide), fun t2 nt2 => ?_⟩
      have su := same_upd (o := .tup [.non, .str "NothingBack"]) nt
      have su2 := same_upd (o := .tup [.non, .str "NothingBack"]) nt2
      refine ⟨_, _, rfl, sm_tup (su2 _ _ upd_same) upd_same rfl (by show 2 ≤ 1000; decide) (sm_flats rfl), fun Hf sf => ⟨_, rfl, iteF ?_⟩⟩
      have sV : Same He Hf := ((s9.trans su).trans su2).trans sf
      have ext0 : ExtN H6 Hf := fun b o e n => sV _ _ (e7 _ _ ((s6b.trans sd) _ _ e) n)
      have hlf : Hf l = some (.lst vs) := ext0 _ _ hl (fun ps z => nomatch z)
      refine ⟨_, rfl, l, vs, rfl, .inl (.inl (.inl hlf)), fun R nR => ⟨Nat.zero_le _, fun V0 nV => ⟨_, _, rfl, ?_⟩⟩⟩
      have sR := same_upd (o := .lst vs) nR
      have sV0 := same_upd (o := .lst []) nV
      have e1 : ∀ y, Lp o1 y → H6 y = none := fun y h => by
        rcases h with h | h | h | h <;> subst h <;> assumption
      have e2 : ∀ y, Lp o2 y → H6 y = none := fun y h => by
        rcases h with h | h | h | h <;> subst h <;> assumption
      have e2a : ∀ y, Lp o2 y → Ha y = none := fun y h => by
        rcases h with h | h | h | h <;> subst h <;> assumption
      have e12 : ∀ y z, Lp o1 y → Lp o2 z → y ≠ z := fun y z h1 h2 e => by
        obtain ⟨o, q1, _⟩ := A1a.occ h1
        rw [e, e2a z h2] at q1
        cases q1
      have nL : ∀ {b : LgP} {L : Lg} {H7 : Hp} {y : Addr}, LgAt K H7 b L → H7 y = none → ¬ Lp b y := fun B n h => by
        obtain ⟨o, q1, _⟩ := B.occ h
        rw [n] at q1
        cases q1
      have A1f := A1e.same sV
      have A2f := A2e.same sV
      have Z : Z63 (tb8 K) K f c l a0 o2 ss us R V0 o1 (upd (upd Hf R (.lst vs)) V0 (.lst [])) ss [] := by
        refine Z63.start J (fun b o e n => (sR.trans sV0) _ _ (ext0 _ _ e n)) (tabs_same t7 (sV.trans (sR.trans sV0))) (A1f.same (sR.trans sV0)) (A2f.same (sR.trans sV0)) e1 e2 e12 (fun vs' h => ?_) upd_same (not_ext ext0 nR) (not_ext (fun b o e n => sR _ _ (ext0 _ _ e n)) nV) (ne_of_none upd_same nV) ⟨nL A1f nR, nL A2f nR⟩ ⟨nL (A1f.same sR) nV, nL (A2f.same sR) nV⟩
        rw [hl] at h
        cases h
        exact sV0 _ _ upd_same
      have nl2 : ¬ M3 o2 l := fun h => by
        have := e2 l (.inr h)
        rw [hl] at this
        cases this
      have na2 : ∀ y, Lp a0 y → ¬ M3 o2 y := fun y h m => by
        obtain ⟨o, q1, _⟩ := J.lg.occ h
        rw [e2 y (.inr m)] at q1
        cases q1
      have gs := J.gs
      generalize upd (upd Hf R (.lst vs)) V0 (.lst []) = Hg at Z ⊢
      clear sR sV0 nV nR A1f A2f nL e12 e2a e2 e1 hlf ext0 sV su su2 Jd Je Jc A1e A2e S1 J P1 hl
      refine ⟨_, rfl, f, c, 7, rfl, Z.J.fl, by decide, by decide, fun v7 Hh v70 v7n sb7 F7 => ⟨_, rfl, by omega, by omega, ?_⟩⟩
      have Z7 := Z.sbf sb7 F7
      refine for_range (lo := 0) (n := v7.toNat) (fun i σ H' => ∃ (a1 : LgP) (s1 u1 : List (List Dd × Md)) (y6 : Option V), σ = [some (.ref a), some (.ref f), some (.int L0.l), some (.ref al.p), some (.ref l), some (.ref W), y6, some (.str (pgT L0.l (ss.map (·.1)))), some (.ref o1.p), some (.ref o2.p), some (.ref R), some (.ref V0), none] ∧ a1.p = o1.p ∧ Z63 (tb8 K) K f c l a0 o2 ss us R V0 a1 H' s1 u1 ∧ s1.length + u1.length ≤ 25 + i ∧ Chn8 md0 (s1 ++ u1.reverse)) ⟨o1, ss, [], _, rfl, rfl, Z7, by show ss.length + 0 ≤ _; omega, by rw [List.reverse_nil, List.append_nil]; exact chs⟩ ?_ ?_
      · clear Z Z7
        rintro i σ H7 hi ⟨a1, s1, u1, y6, rfl, ep1, Z, le1, ch1⟩
        exact ⟨_, rfl, _, rfl, _, rfl, _, rfl, i0, _, f, c, R, V0, a1, s1, u1, by rw [ep1]; rfl, Z.J, by omega, fun a2 H8 s2 u2 ep2 J8 le2 ch2 k g => ⟨_, rfl, iteF ⟨a2, s2, u2, _, rfl, ep2.trans ep1, Z.step J8 k g, by omega, ch2 ch1⟩⟩⟩
      · clear Z Z7
        rintro σ H7 ⟨a1, s1, u1, y6, rfl, ep1, Z, le1, ch1⟩
        have le1 : s1.length + u1.length ≤ 40 := by omega
        have tx1 := chn_tx (chn_app ch1) md0_ok Z.J.gs
        have txs1 : ∀ xs ∈ (lgOf s1 u1).done, TxE xs := fun xs h => by
          obtain ⟨r, hr, rfl⟩ := List.mem_map.1 h
          exact tx1 r hr
        have ld1 : (lgOf s1 u1).done.length ≤ 100 := by
          show (s1.map (·.1)).length ≤ 100
          rw [List.length_map]
          omega
        refine ⟨_, rfl, a1, lgOf s1 u1, md0, _, by rw [ep1]; rfl, Z.J.lg, ld1, txs1, rfl, lm, fun H8 s8' => ?_⟩
        obtain ⟨vs1, hR1, PR1⟩ := (Z.J.same s8').hst
        refine ⟨_, rfl, _, rfl, i0, _, R, vs1, s1, rfl, hR1, PR1, by omega, tx1, fun H9 s9' => ⟨_, _, rfl, sm_eq rfl rfl, fun Hx sx => ⟨_, rfl, iteF ?_⟩⟩⟩
        have Zx := Z.same ((s8'.trans s9').trans sx)
        obtain ⟨vx, hlx, Px⟩ := Zx.hst
        have lx := Px.length
        rw [rows_len] at lx
        have B := B63.of Zx hlx nl2 na2 gs (by omega)
        clear Px hlx Zx Z hR1 PR1 s8' s9' sx
        refine ⟨_, rfl, l, vx, rfl, .inl (.inl (.inl B.hR)), _, _, rfl, rfl, 1, rfl, _, _, _, _, rfl, RgC.neg (by omega) (by omega) (by decide) (by decide), for_rangeC (Pv := fun k σ H' => ∃ y12 : Option V, σ = [some (.ref a), some (.ref f), some (.int L0.l), some (.ref al.p), some (.ref l), some (.ref W), y6, some (.str (pgT L0.l (ss.map (·.1)))), some (.ref o1.p), some (.ref o2.p), some (.ref R), some (.ref V0), y12] ∧ k ≤ ss.length ∧ B63 K a0 o2 l vx ss us H' (ss.length - k)) ⟨_, rfl, Nat.zero_le _, B⟩ ?_ ?_⟩
        · clear B
          rintro k σ H6 hk ⟨y12, rfl, lk, B⟩
          have hk : k < ss.length := by omega
          obtain ⟨j, ej⟩ : ∃ j, ss.length - k = j + 1 := ⟨ss.length - k - 1, by omega⟩
          rw [ej] at B
          have at_ : (((vx.length : Nat) : Int) - 1 + (k : Int) * -1) = ((j + 1 : Nat) : Int) := by omega
          have ldj := B.ld
          have luj := B.lu
          refine ⟨_, rfl, o2.p, o2.dx, _, rfl, B.lg.obj, lf_no (by decide +kernel), o2, _, rfl, B.lg, by omega, by omega, (fun e => ?_), fun ds xs ms m e1 e2 => ?_⟩
          · have e : (ss.take (j + 1)).map (·.1) = [] := e
            have := congrArg List.length e
            rw [List.length_map, List.length_take] at this
            have this : min (j + 1) ss.length = 0 := this
            omega
          · obtain ⟨t4, dm4, y4, r4, q1, q3, q4, q5, q6, q7⟩ := B.at (show j < ss.length by omega)
            obtain ⟨ex, un⟩ := B.undo q4 e1 e2
            refine ⟨by rw [ex]; exact q7, fun v H8 U A8 Td => ?_⟩
            have B8 := un H8 U A8
            obtain ⟨t4, dm4, y4, r5, q1, q3, q8, q5, q6, q7⟩ := B8.at (show j < ss.length by omega)
            rw [q4] at q8
            cases q8
            rw [← ex] at q5 q6
            refine ⟨_, rfl, _, rfl, l, vx, _, _, rfl, rfl, .inl (.inl B8.hR), (by rw [at_]; exact atI_nat q1), t4, _, 0, _, rfl, rfl, .inl (.inl q3), atI_nat (j := 0) rfl, ?_⟩
            refine ⟨_, _, rfl, sm_to Td.1 q5 q6, fun H9 s9 => ⟨_, rfl, iteF ⟨_, rfl, by omega, ?_⟩⟩⟩
            rw [show ss.length - (k + 1) = j by omega]
            exact B8.same s9
        · clear B
          rintro σ H6 ⟨y12, rfl, _, B⟩
          have n0 : ss.length - (((vx.length : Nat) : Int) - 1 - 0).toNat = 0 := by omega
          rw [n0] at B
          have l3 := numS_len lm
          have l4 : ("log " : Str).length ≤ 4 := by decide +kernel
          refine ⟨_, rfl, o2, _, md0, _, rfl, B.lg, B.ld, (fun xs h => nomatch h), rfl, lm, fun H7 s7 => ?_⟩
          refine ⟨_, rfl, L0.l, rfl, small_log lm, ("log " : Str), numS L0.l, rfl, rfl, Nat.le_of_lt (small1000 (by show _ + _ ≤ 1000; exact Nat.le_trans (Nat.add_le_add l4 l3) (by decide))), ?_⟩
          refine ⟨_, _, rfl, sm_eq (congrArg V.str ((pgT_nil L0.l).trans (headT_app L0.l))) rfl, fun H8 s8 => ⟨_, rfl, iteF ?_⟩⟩
          have B8 := (B.same s7).same s8
          have S8 : S58 K (M3 o2) l a0 H8 ss us := ⟨B8.la, ⟨vx, B8.hR, B8.pR⟩, B8.gs⟩
          refine ⟨_, rfl, _, rfl, i0, _, l, a0, ss, us, by rw [ep]; rfl, S8, by omega, fun H9 s9 => ⟨_, rfl, iteT ?_⟩⟩
          exact ⟨_, rfl, a0, lgOf ss us, md0, _, by rw [ep]; rfl, (B8.same s9).la, ld, txs, rfl, lm, fun H10 s10 => ⟨_, rfl, _, _, rfl, sm_eq rfl rfl, fun H11 s11 => q _⟩⟩
end
end Tw

set_option maxHeartbeats 0
namespace Tw
open PySem PySem.Spec PyProof.Rows L2
theorem facts {l : PySem.W.OpenLaw} {w : World} {K : PySem.W.Frag} {h : Heap} {mg : Str → Option Value} {f : Addr} (X : K.In h) (G : h.Ns mainGlobals mg) (hfa : mg ("law" : Str) = some (.ref f)) (c : SaysW fa fn tf ex tb w h K) : LamX.LawAtS l w K CX0 20 63 "_law_script" mg f h := by
  have T : Tp K mg := tp_mk X G c.y.d c.y.more
  have e := hfa.symm.trans (g_law T)
  cases e
  obtain ⟨fd, F⟩ := f_law T
  have b := FunD.bindsA (ps := ["_law_script"]) F fun _ _ _ _ _ _ us hl => match us, hl with
    | [_], _ => rfl
  have of_ : ∀ {R : Addr × Addr → Prop}, (∀ d ∈ tf, R (He.cT K d)) → ∀ p ∈ tf.map (He.cT K), R p := fun hR p hp => by
    obtain ⟨d, hd, rfl⟩ := List.mem_map.1 hp
    exact hR d hd
  exact ⟨fd, tf.map (He.cT K), sp_law K, of_ c.y.empty, of_ c.y.out, of_ (fun d hd => PySem.W.codeHd_of_K X (c.y.code d hd)), fun s v => b s [v] rfl, fun H a ns _ _ hH hS => ⟨a, ns, rfl, hS, hH _ (List.mem_map_of_mem List.mem_cons_self), hH _ (List.mem_map_of_mem (List.mem_cons_of_mem _ List.mem_cons_self)), fun _ => rfl⟩,
    fun base _ _ hT => ok_law T c.tabo (hT _ (List.mem_map_of_mem List.mem_cons_self)) (hT _ (List.mem_map_of_mem (List.mem_cons_of_mem _ List.mem_cons_self))) F⟩
end Tw
open PySem PySem.W PySem.Calls PyProof.Rows
theorem PySem.Challenge.cw_tidewaiter_k63_pages_there_and_back_holds : PySem.Challenge.rw_tidewaiter_k63_pages_there_and_back.Holds := by
  w_on; o_law
  refine HandSHeadRun.head_any (r := Tw.R) (q := view Tw.R.prog [Tw.lawAt]) (H := Tw.hk) (ob := Tw.ob) (M := 30000) (loose := Tw.loose) (d := HandSHeadRun.topDef Tw.R.prog Tw.lawAt) (kwd := []) Tw.ob_eq
    (by kernel_rfl) (fun s => by kernel_rfl) Tw.run (by kernel_rfl) (by kernel_rfl) (by kernel_rfl) (by rfl) (by first | assumption | decide +kernel) (by decide +kernel) ⟨rfl, rfl, rfl, rfl, rfl, by decide +kernel⟩ ?hw ?hc
  case hw => w_witness2
  case hc =>
    refine LamX.walk_ofTsE (l := PySem.Challenge.rw_tidewaiter_k63_pages_there_and_back) (n := 63) (k := 20) (x := "_law_script") (CX := fun _ => L2.CX0) rfl (by decide) (by kernel_rfl) ⟨rfl, by decide, by decide⟩ ?F (fun _ _ _ _ _ z => z)
    intro w mg fa h Y G hmg0
    obtain ⟨K, KX, c⟩ := Y
    have hmg : mg ("law" : PySem.Str) = some (.ref fa) := by
      have e : (HandSHeadRun.topDef Tw.R.prog Tw.lawAt).name = ("law" : PySem.Str) := by kernel_rfl
      rw [← e]
      exact hmg0
    exact ⟨K, KX, Tw.facts KX G hmg c⟩

