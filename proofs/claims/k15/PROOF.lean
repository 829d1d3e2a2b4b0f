import PyProof.Rows.All
import Wide.All
import OpenK.AllK
import Wide.FinOn
import KE.KStateDown
import HandS.ForMost
import HandS.IsInst
import HandS.FStr
import HandS.Star
import HandS.Style
import HandS.Codes
import HandS.Walk
import HandS.Defaults
import HandS.MakeKw
import HandS.SlotsOwn
import HandS.HeadEnd
import HandS.HeadHook1
import HandS.HeadHook2
import HandS.Head0
import HandS.Head1
import HandS.Head2
import HandS.Exc
import HandS.TryMany
import KE.KTryMore
import HandS.ExcInit
import HandS.ExcField
import HandS.Lambda
import HandS.EndTab
import HandS.HeadWalk
import HandS.HeadHook4
import KE.KExcInit
import HandS.HeadHook3
import Wide.Once
import HandS.DictComp
import HandS.TupAny
import HandS.Deep
import HandS.CallLocal
import PyProof.P3Eq
import HandS.Flow
import HandS.TupMul
import HandS.TryOnly
import HandS.TupLe
import PySem.Challenge.RW_tidewaiter_k15_made_rows_refused
set_option Elab.async false
set_option linter.all false
set_option maxRecDepth 100000
set_option maxHeartbeats 4000000
/-! rules of our own over the layer: a def's promise out of its place in the top (the promises themselves are C8's), methods called with keywords, len and repr of an own instance -/
namespace Tw
open PySem PySem.Spec PyProof.Rows L2
section
variable (P : Program) (w : World) (K : PySem.W.Frag) (mg : Str → Option Value) (base : Heap)
/-- the library's promises of a def and of a method, where every parameter is handed in -/
abbrev Cal (k : Nat) (x : Str) (sp : Sp) : Prop := C8.Cal P w K mg base k x sp []
abbrev Met (k : Nat) (C : Addr) (m : Str) (sp : Sp) : Prop := C8.Met P w K mg base k C m sp []
abbrev Mak (k : Nat) (x : Str) (C : Addr) (sp : Sp) (dvs : List V) : Prop := C8.Mak P w K mg base k x C sp dvs
/-- what is owed for a body: it can be read, and under the promise's premise its reading does what the promise tells -/
abbrev BodyOk (k : Nat) (N : List Str) (qual : Str) (body : List Stmt) (scope : Scope) (f : Addr) (sp : Sp) : Prop :=
  ∀ (cdv : Value) (A : Around) (outer : List Env) (s : Shared) (H : Hp) (vs : List V) (Q : VK) (E : XK), Room k (A.deeper (envOfC qual scope s.heap.objs.size f cdv)) → sp vs H Q E →
      ∃ t, PSs (cxOf CX0 P w K mg base N qual scope f cdv A outer s H E).nox body t ∧ t { nx := fun _ H' => Q .non H', rt := Q } (start N vs) H
/-- a method of C for n positional values (self among them) and the keywords ks; gV puts them into the parameters' order -/
structure MetG (CX : CXT) (k : Nat) (C : Addr) (m : Str) (sp : Sp) (n : Nat) (ks : List Str) (gV : List V → List V → List V) : Prop where
  ex : ∃ (f : Addr) (fd : FuncData) (ps : List Str) (g : List Value → List Value → List Value), Cls K C ∧ Meth K C m f ∧ FnOk P w K mg base CX k f fd ps sp ∧ KBn K fd ps n ks g gV
abbrev MetN (k : Nat) (C : Addr) (m : Str) (sp : Sp) (n : Nat) (ks : List Str) : Prop := MetG P w K mg base CX0 k C m sp n ks (fun us ws => us ++ ws)
end
section
variable {P : Program} {w : World} {K : PySem.W.Frag} {mg : Str → Option Value} {base : Heap} {x qual : Str} {C f : Addr} {params : Arguments} {body : List Stmt} {scope : Scope} {dvs : List V} {kws : List (Str × V)} {fd : FuncData} {N ps ks : List Str} {k n : Nat} {sp : Sp}
theorem fnok_of (F : FunD K x qual params body scope dvs kws f fd) (S : FnScope N ps scope) (len : ∀ vs H Q E, sp vs H Q E → vs.length = ps.length) (owed : BodyOk P w K mg base k N qual body scope f sp) : FnOk P w K mg base CX0 (k + 1) f fd ps sp :=
  F.ok S len fun cdv A outer s H vs Q E room h => (owed cdv A outer s H vs Q E room h).imp fun _ p => ⟨p.1.nox, p.2⟩
theorem cal_of (F : FunD K x x params body scope [] [] f fd) (hm : mg x = some (.ref f)) (b : Binds K fd ps []) (S : FnScope N ps scope) (len : ∀ vs H Q E, sp vs H Q E → vs.length = ps.length) (owed : BodyOk P w K mg base k N x body scope f sp) : Cal P w K mg base (k + 1) x sp :=
  ⟨f, fd, ps, [], fnok_of F S len owed, hm, F.kp, b, .nil⟩
theorem met_of (F : FunD K x qual params body scope dvs kws f fd) (c : Cls K C) (me : Meth K C x f) (b : Binds K fd ps []) (S : FnScope N ps scope) (len : ∀ vs H Q E, sp vs H Q E → vs.length = ps.length) (owed : BodyOk P w K mg base k N qual body scope f sp) : Met P w K mg base (k + 1) C x sp :=
  ⟨f, fd, ps, [], c, me, fnok_of F S len owed, b, .nil⟩
/-- no defaults: the handed values, put in order by g, are the parameters -/
theorem kbn_by (F : FunD K x qual params body scope [] kws f fd) (g : {α : Type} → List α → List α → List α) (hrel : ∀ {vs zs : List V} {us ws : List Value}, Vals vs us → Vals zs ws → Vals (g vs zs) (g us ws))
    (h : ∀ (kV doc pm : Value) (an : Option Addr) (cdv ct : Value) (us ws : List Value), us.length = n → ws.length = ks.length → bindArgs (PySem.W.fnOf x qual params body scope .none kV doc pm an cdv ct) ⟨us, ks.zip ws⟩ = pure (ps.zip (g us ws))) :
    KBn K fd ps n ks (fun us ws => g us ws) (fun us ws => g us ws) := by
  obtain ⟨_, _, _, kV, doc, pm, an, cdv, ct, _, rfl, _, _, none_ | ⟨some_, _⟩, _⟩ := F.ex
  · cases none_.2
    exact ⟨fun _ us ws _ l1 l2 => .of_eq (h kV doc pm an cdv ct us ws l1 l2), hrel⟩
  · cases some_ rfl
theorem kbn_of (F : FunD K x qual params body scope [] kws f fd)
    (h : ∀ (kV doc pm : Value) (an : Option Addr) (cdv ct : Value) (us ws : List Value), us.length = n → ws.length = ks.length → bindArgs (PySem.W.fnOf x qual params body scope .none kV doc pm an cdv ct) ⟨us, ks.zip ws⟩ = pure (ps.zip (us ++ ws))) :
    KBn K fd ps n ks (fun us ws => us ++ ws) (fun us ws => us ++ ws) := kbn_by F (fun us ws => us ++ ws) (fun r1 r2 => r1.append r2) h
end
section
variable {X : Cx} {CX : CXT} {k j n : Nat} {C : Addr} {x m : Str} {sp : Sp} {dvs : List V} {p pos apos : Pos} {e o : Expr} {es : List Expr} {ta : TE} {t tk : TA} {ks : List Str} {kws : List Keyword} {gV : List V → List V → List V} {E : XK} {pl : Sem Bool}
/-- C() with all its parameters left out -/
theorem pe_mk0 (c : Mak X.prog X.w X.K X.mg X.base k x C sp dvs) (hr : Room j X.A) (hk : k + 1 ≤ j) (hg : Gl X x) (hdb : (x == ("__debug__" : Str)) = false := by decide) : PE X (.Call (.Name x p) [] [] pos) (tMake C sp dvs E0 tNil) :=
  let ⟨_, _, _, _, made, F, at_, b, d⟩ := c.ex
  pe_make0 made F (hr.mono hk) hg at_ b d pass0 hdb
/-- the text o.m(e, .., k = v, ..) has no star, names its keywords ks, and goes these steps -/
structure KwForm (X : Cx) (pl : Sem Bool) (o e : Expr) (es : List Expr) (kws : List Keyword) (m : Str) (apos pos : Pos) (ks : List Str) : Prop where
  named : (backToKw pos (keywordEach kws X.env)).all (·.1.isSome) = true
  names : (backToKw pos (keywordEach kws X.env)).filterMap (·.1) = ks
  first : starEach (e :: es) X.env = (false, eval e X.env) :: starEach es X.env
  plain : ((backTo pos (starEach (e :: es) X.env)).any (·.1) || (backToKw pos (keywordEach kws X.env)).any (·.1.isNone)) = false
  steps : eval (.Call (.Attribute o m apos) (e :: es) kws pos) X.env =
    (eval o X.env >>= fun ov => standAt apos.atName >>= fun _ => holding [ov] (getMethod ov m pl) >>= fun g => callWith pos g.1 g.2 (backTo pos (starEach (e :: es) X.env)) (backToKw pos (keywordEach kws X.env)))
def tMethG (C : Addr) (m : Str) (n nk : Nat) (sp : Sp) (gV : List V → List V → List V) (E : XK) (ta : TE) (t tk : TA) : TE := fun σ H Q => ta σ H fun x H1 => ∃ a dx fs, x = .ref a ∧ H1 a = some (.ins C dx fs) ∧ fs.lookup m = none ∧
  t σ H1 fun vs H2 => tk σ H2 fun zs H3 => vs.length + 1 = n ∧ zs.length = nk ∧ sp (gV (x :: vs) zs) H3 Q E
theorem pe_mg (c : MetG X.prog X.w X.K X.mg X.base CX k C m sp n ks gV) (hx : Passes CX X E) (hr : Room j X.A) (hk : k ≤ j) (he : PE X o ta) (ha : PA X (e :: es) t) (hkw : PK X kws tk) (form : KwForm X pl o e es kws m apos pos ks) :
    PE X (.Call (.Attribute o m apos) (e :: es) kws pos) (tMethG C m n ks.length sp gV E ta t tk) := by
  obtain ⟨f, fd, ps, g, cls, me, F, kb⟩ := c.ex
  obtain ⟨named, rfl, first, plain, steps⟩ := form
  constructor
  intro pins s σ H Q I h
  refine PySem.W.methodCall_KW (pl := pl) (thn (he.run pins s σ H _ I h) ?_) steps
  rintro _ s1 ⟨_, H1, I1, obj, a, dx, fs, rfl, here, own, q⟩
  cases (show _ = Value.ref a from obj)
  refine getmeth_ok I1 here cls me own (PySem.W.callWith_KW (first := [.ref a]) (h₀ := X.base) I.ok.mod.kin me.kp named (thn (ha.run pos pins s1 σ H1 _ I1 q) ?_) plain first)
  rintro us s2 ⟨vs, H2, I2, rv, q2⟩
  refine thn (hkw.run pos pins s2 σ H2 _ I2 q2) ?_
  rintro ws s3 ⟨zs, H3, I3, rz, ln, lk, q3⟩
  exact ⟨I3.kIn, run_fnN (us := .ref a :: us) (vs := .ref a :: vs) F (hr.mono hk) kb hx I3 (.cons rfl rv) rz ln lk q3⟩
/-- .. where the method raises nothing -/
theorem pe_mg0 (c : MetG X.prog X.w X.K X.mg X.base CX0 k C m sp n ks gV) (hr : Room j X.A) (hk : k ≤ j) (he : PE X o ta) (ha : PA X (e :: es) t) (hkw : PK X kws tk) (form : KwForm X pl o e es kws m apos pos ks := by exact ⟨rfl, rfl, rfl, rfl, rfl⟩) :
    PE X (.Call (.Attribute o m apos) (e :: es) kws pos) (tMethG C m n ks.length sp gV E0 ta t tk) := pe_mg c pass0 hr hk he ha hkw form
/-- an own method without values, as a builtin finds and runs it -/
theorem own0 (c : Met X.prog X.w X.K X.mg X.base k C m sp) : ∃ f, PySem.W.findIn X.K (.ref C) m = some (some (.ref f)) ∧ PySem.W.isFn X.K (.ref f) = true ∧ FnR X.prog X.w X.K X.mg X.base CX0 k f sp := by
  obtain ⟨f, _, _, _, _, me, F, b, d⟩ := c.ex
  exact ⟨f, me.at_, me.fn, (F.raw b d).imp fun vs _ _ _ h => (List.append_nil vs).symm ▸ h⟩
/-- len(o) by an own __len__ -/
def rLenO (C : Addr) (sp : Sp) : List V → Hp → VK → Prop := fun xs H Q => ∃ a dx fs, xs = [.ref a] ∧ H a = some (.ins C dx fs) ∧ sp [.ref a] H (fun v H' => ∃ i : Int, v = .int i ∧ 0 ≤ i ∧ i < 2 ^ 63 ∧ Q (.int i) H') E0
theorem call_lenO (c : Met X.prog X.w X.K X.mg X.base k C "__len__" sp) (hr : Room j X.A) (hk : k + 1 ≤ j) : CallR X (.builtin "len") (rLenO C sp) := by
  rintro pins s σ H _ us Q I r ⟨a, dx, fs, rfl, here, q⟩
  obtain rfl := Vals.ref1 r
  obtain ⟨f, hs, hf, F⟩ := own0 c
  obtain ⟨_, J0, _⟩ := ins_get I.hok here
  obtain ⟨_, J, _⟩ := J0.look
  obtain ⟨_, hF⟩ := I.fr
  refine PySem.W.len_K hF I.ok.mod.kin J hs hf (thn (wpAny_call (SlX.run_at F (hr.mono hk).in1 I.env0.in1 pass0 I r q)) ?_)
  rintro _ s1 ⟨_, H1, I1, rv, i, rfl, low, high, q1⟩
  obtain ⟨_, rfl⟩ := rv
  exact ⟨⟨low, high⟩, .int i, H1, I1.tok _, ⟨_, rfl⟩, q1⟩
/-- repr(o) by an own __repr__ -/
def rReprO (C : Addr) (sp : Sp) : List V → Hp → VK → Prop := fun xs H Q => ∃ a dx fs, xs = [.ref a] ∧ H a = some (.ins C dx fs) ∧ sp [.ref a] H (fun v H' => ∃ z : Str, v = .str z ∧ Q (.str z) H') E0
theorem call_reprO (c : Met X.prog X.w X.K X.mg X.base k C "__repr__" sp) (hr : Room j X.A) (hk : k + 1 ≤ j) : CallR X (.builtin "repr") (rReprO C sp) := by
  rintro pins s σ H _ us Q I r ⟨a, dx, fs, rfl, here, q⟩
  obtain rfl := Vals.ref1 r
  obtain ⟨f, hs, hf, F⟩ := own0 c
  obtain ⟨_, J0, _⟩ := ins_get I.hok here
  obtain ⟨_, J, _⟩ := J0.look
  obtain ⟨_, hF⟩ := I.fr
  have room : Room k X.A.in1 := (hr.mono hk).in1
  refine PySem.W.repr_K room.units0 hF I.ok.mod.kin J hs hf (thn (wpAny_call (SlX.run_at F room I.env0.in1 pass0 I r q)) ?_)
  rintro _ s1 ⟨_, H1, I1, rv, z, rfl, q1⟩
  obtain ⟨_, rfl⟩ := rv
  exact ⟨.str z, H1, I1, ⟨_, rfl⟩, q1⟩
end
end Tw

set_option maxHeartbeats 4000000
/-! what the program's and the law's data are, and what heaps keep -/
namespace Tw
open PySem PySem.Spec PyProof.Rows L2
theorem bb_len : bootBuiltins "len" = some (.builtin "len") := by decide +kernel
theorem bb_all : bootBuiltins "all" = some (.builtin "all") := by decide +kernel
theorem bb_abs : bootBuiltins "abs" = some (.builtin "abs") := by decide +kernel
theorem bb_repr : bootBuiltins "repr" = some (.builtin "repr") := by decide +kernel
theorem bb_isinstance : bootBuiltins "isinstance" = some (.builtin "isinstance") := by decide +kernel
theorem bb_list : bootBuiltins "list" = some (.type "list") := by decide +kernel
theorem bb_tuple : bootBuiltins "tuple" = some (.type "tuple") := by decide +kernel
theorem bb_str : bootBuiltins "str" = some (.type "str") := by decide +kernel
theorem bb_bool : bootBuiltins "bool" = some (.type "bool") := by decide +kernel
theorem bb_int : bootBuiltins "int" = some (.type "int") := by decide +kernel
theorem bb_dict : bootBuiltins "dict" = some (.type "dict") := by decide +kernel
/-! isinstance with a built-in class -/
def kitT : String → String → Bool
  | "bool", "bool" => true
  | "bool", "int" => true
  | "int", "int" => true
  | "str", "str" => true
  | "list", "list" => true
  | "tuple", "tuple" => true
  | "dict", "dict" => true
  | _, _ => false
def kinds : List String := ["NoneType", "bool", "int", "str", "list", "tuple", "dict"]
theorem kitB_all : (kinds.all fun a => (kinds.drop 1).all fun b => decide (kitB a b = some (kitT a b))) = true := by decide +kernel
theorem kitB_of {a b : String} (ha : a ∈ kinds) (hb : b ∈ kinds.drop 1) : kitB a b = some (kitT a b) :=
  of_decide_eq_true (List.all_eq_true.mp (List.all_eq_true.mp kitB_all a ha) b hb)
/-- isinstance(x, T): the reading asks the kind of x -/
def rIsK (K : PySem.W.Frag) : List V → Hp → VK → Prop := fun xs H Q => ∃ (x : V) (n a : String), xs = [x, .ty n] ∧ TyX K H x (.type a) ∧ a ∈ kinds ∧ n ∈ kinds.drop 1 ∧ Q (.bl (kitT a n)) H
theorem call_isK {X : Cx} : CallR X (.builtin "isinstance") (rIsK X.K) := by
  intro pins s σ H xs us Q I r h
  obtain ⟨x, n, a, rfl, ty, ha, hn, q⟩ := h
  exact call_isi pins s σ H _ us Q I r ⟨x, .ty n, .type a, .type n, kitT a n, rfl, .ty n, ty, kit_ty (kitB_of ha hn), q⟩
/-! the same rules inside a comprehension's block, where the written part is the def's -/
section
variable {X : Cx} {K : PySem.W.Frag}
theorem ix_tupK (h : X.K = K) : IxR X (rIxT K) := h ▸ ix_tup
theorem ix_listK (h : X.K = K) : IxR X (rIxL K) := h ▸ ix_list
theorem ix_seqK (h : X.K = K) : IxR X (rIx K) := h ▸ ix_seq
theorem op_in_seqK (h : X.K = K) : OpR X (compareOp .In) (rIn K false) := h ▸ op_in_seq
theorem op_notIn_seqK (h : X.K = K) : OpR X (compareOp .NotIn) (rIn K true) := h ▸ op_notIn_seq
theorem call_len_seqK (h : X.K = K) : CallR X (.builtin "len") (fun xs H Q => ∃ p ys, xs = [.ref p] ∧ (SqL K H p ys ∨ SqT K H p ys) ∧ Q (.int ys.length) H) := h ▸ call_len_seq
theorem call_isKK (h : X.K = K) : CallR X (.builtin "isinstance") (rIsK K) := h ▸ call_isK
theorem pe_fldK {e : Expr} {f : Str} {ta : TE} {pos : Pos} (h : X.K = K) (ha : PE X e ta) (hb : attributeBase e f X.env (eval e X.env) = eval e X.env) : PE X (.Attribute e f pos) (tFld K ta f) := h ▸ pe_fld ha hb
theorem pg_tupK {es : List Expr} {k : Nat} {t : TGs} {n : Nat} {pos : Pos} (h : X.K = K) (hc : X.calm = true) (hg : PGs X es t) (hn : (assignEach es X.env).length = n := by rfl) (hst : (assignEach es X.env).findIdx? (·.1) = none := by rfl) : PG X (.Tuple es k pos) (gTup K n t) := h ▸ pg_tup hc hg hn hst
end
theorem yes_i {σ : L2.St} {H : Hp} {Q : Bool → Hp → Prop} (h : Q true H) : tYes σ H Q := h
/-! ### heaps -/
theorem same_upd {H : Hp} {p : Addr} {o : HO} (h : H p = none) : Same H (upd H p o) := fun b x e => by
  rw [upd_ne (ne_of_none e h)]
  exact e
/-- all but the place f stays -/
def Sb (f : Addr) (H H' : Hp) : Prop := ∀ b o, H b = some o → b ≠ f → H' b = some o
theorem Sb.refl {f : Addr} {H : Hp} : Sb f H H := fun _ _ h _ => h
theorem Sb.of {f : Addr} {H H' : Hp} (s : Same H H') : Sb f H H' := fun b o h _ => s b o h
theorem Sb.trans {f : Addr} {H H1 H2 : Hp} (a : Sb f H H1) (b : Sb f H1 H2) : Sb f H H2 := fun c o h n => b c o (a c o h n) n
theorem Sb.upd {f : Addr} {H : Hp} {o : HO} : Sb f H (upd H f o) := fun b x e n => by
  rw [upd_ne n]
  exact e
/-- tuples stay -/
def Kt (H H' : Hp) : Prop := ∀ b xs, H b = some (.tup xs) → H' b = some (.tup xs)
theorem Kt.of {H H' : Hp} (s : Same H H') : Kt H H' := fun b _ h => s b _ h
theorem Kt.trans {H H1 H2 : Hp} (a : Kt H H1) (b : Kt H1 H2) : Kt H H2 := fun c o h => b c o (a c o h)
theorem Sb.kt {f : Addr} {H H' : Hp} {xs : List V} (s : Sb f H H') (hf : H f = some (.lst xs)) : Kt H H' := fun b _ h => s b _ h (ne_of h hf (by intro z; cases z))
theorem Kt.upd {H : Hp} {p : Addr} {o : HO} (h : ∀ xs, H p = some (.tup xs) → o = .tup xs) : Kt H (upd H p o) := fun b xs e => by
  by_cases hb : b = p
  · subst hb
    rw [upd_same, h xs e]
  · rw [upd_ne hb]
    exact e
/-! ### the data -/
structure Wd where
  en : Str
  bg : Str
  lo : Int
  hi : Int
  la : Option Int
structure Bd where
  one : Str
  oth : Str
  bot : Option Int
  top : Option Int
/-- a web as the law keeps it -/
structure Md where
  last : Int
  own : List Str
  wd : List Wd
  bd : List Bd
def oV : Option Int → V
  | none => .non
  | some i => .int i
def Wd.row (x : Wd) : List V := [.str x.en, .str x.bg, .int x.lo, .int x.hi, oV x.la]
def Bd.row (x : Bd) : List V := [.str x.one, .str x.oth, oV x.bot, oV x.top]
def Md.pts (m : Md) : List Str := "start" :: (m.own ++ m.wd.map (·.en))
/-- tuples stand at these places -/
def Rows (H : Hp) (xs : List V) (rs : List (List V)) : Prop := Paired (fun x r => ∃ t, x = V.ref t ∧ H t = some (.tup r)) xs rs
theorem Rows.keep {H H' : Hp} (k : Kt H H') {xs : List V} {rs : List (List V)} (h : Rows H xs rs) : Rows H' xs rs := Paired.mono (fun _ _ ⟨t, e, ht⟩ => ⟨t, e, k t _ ht⟩) h
theorem Rows.len {H : Hp} {xs : List V} {rs : List (List V)} (h : Rows H xs rs) : xs.length = rs.length := Paired.length h
theorem Rows.snoc {H : Hp} {xs : List V} {rs : List (List V)} {t : Addr} {r : List V} (h : Rows H xs rs) (e : H t = some (.tup r)) : Rows H (xs ++ [.ref t]) (rs ++ [r]) := Paired.snoc h ⟨t, rfl, e⟩
theorem paired_at {α β : Type} {F : α → β → Prop} : ∀ {l : List α} {m : List β} {i : Nat} {a : α}, Paired F l m → l[i]? = some a → ∃ b, m[i]? = some b ∧ F a b
  | _, _, 0, _, .cons h _, e => by
    cases e
    exact ⟨_, rfl, h⟩
  | _, _, i + 1, a, .cons _ t, e => by
    obtain ⟨b, h1, h2⟩ := paired_at (i := i) t e
    exact ⟨b, h1, h2⟩
theorem Rows.at {H : Hp} {xs : List V} {rs : List (List V)} {i : Nat} {x : V} (h : Rows H xs rs) (e : xs[i]? = some x) : ∃ t r, x = .ref t ∧ rs[i]? = some r ∧ H t = some (.tup r) := by
  obtain ⟨r, h1, t, h2, h3⟩ := paired_at h e
  exact ⟨t, r, h2, h1, h3⟩
/-- a Web's attributes -/
def wf (last : Int) (a b c : Addr) : List (Str × V) := [("by", .int last), ("moment_rows", .ref a), ("span_rows", .ref b), ("tie_rows", .ref c)]
theorem wf_by {l : Int} {a b c : Addr} : (wf l a b c).lookup ("by" : Str) = some (.int l) := by
  unfold wf
  rw [List.lookup_cons_self]
theorem wf_m {l : Int} {a b c : Addr} : (wf l a b c).lookup ("moment_rows" : Str) = some (.ref a) := by
  unfold wf
  rw [List.lookup_cons, show (("moment_rows" : Str) == "by") = false by decide +kernel, List.lookup_cons_self]
theorem wf_s {l : Int} {a b c : Addr} : (wf l a b c).lookup ("span_rows" : Str) = some (.ref b) := by
  unfold wf
  rw [List.lookup_cons, show (("span_rows" : Str) == "by") = false by decide +kernel, List.lookup_cons, show (("span_rows" : Str) == "moment_rows") = false by decide +kernel, List.lookup_cons_self]
theorem wf_t {l : Int} {a b c : Addr} : (wf l a b c).lookup ("tie_rows" : Str) = some (.ref c) := by
  unfold wf
  rw [List.lookup_cons, show (("tie_rows" : Str) == "by") = false by decide +kernel, List.lookup_cons, show (("tie_rows" : Str) == "moment_rows") = false by decide +kernel, List.lookup_cons, show (("tie_rows" : Str) == "span_rows") = false by decide +kernel, List.lookup_cons_self]
def webAttrs : List Str := ["by", "moment_rows", "span_rows", "tie_rows"]
theorem wf_no {l : Int} {a b c : Addr} {m : Str} (h : webAttrs.all (fun x => !(m == x)) = true) : (wf l a b c).lookup m = none := by
  unfold webAttrs at h
  simp only [List.all_cons, List.all_nil, Bool.and_true, Bool.and_eq_true, Bool.not_eq_true'] at h
  obtain ⟨h1, h2, h3, h4⟩ := h
  unfold wf
  rw [List.lookup_cons, h1, List.lookup_cons, h2, List.lookup_cons, h3, List.lookup_cons, h4]
  rfl
/-- a web stands at p -/
structure WebAt (C : Addr) (H : Hp) (p : Addr) (m : Md) : Prop where
  ex : ∃ (dx a b c : Addr) (ws bs : List V), H p = some (.ins C dx (wf m.last a b c)) ∧ H a = some (.tup (m.own.map V.str)) ∧ H b = some (.tup ws) ∧ Rows H ws (m.wd.map Wd.row) ∧ H c = some (.tup bs) ∧ Rows H bs (m.bd.map Bd.row)
  len : m.own.length ≤ 10 ∧ m.wd.length ≤ 4 ∧ m.bd.length ≤ 40
  last : 1 ≤ m.last ∧ m.last ≤ 1000
theorem WebAt.keep {C : Addr} {H H' : Hp} {p : Addr} {m : Md} (h : WebAt C H p m) (hp : ∀ dx fs, H p = some (.ins C dx fs) → H' p = some (.ins C dx fs)) (k : Kt H H') : WebAt C H' p m := by
  obtain ⟨dx, a, b, c, ws, bs, h1, h2, h3, h4, h5, h6⟩ := h.ex
  exact ⟨⟨dx, a, b, c, ws, bs, hp _ _ h1, k _ _ h2, k _ _ h3, h4.keep k, k _ _ h5, h6.keep k⟩, h.len, h.last⟩
theorem WebAt.same {C : Addr} {H H' : Hp} {p : Addr} {m : Md} (h : WebAt C H p m) (s : Same H H') : WebAt C H' p m := h.keep (fun _ _ e => s _ _ e) (Kt.of s)
theorem WebAt.sb {C : Addr} {H H' : Hp} {p f : Addr} {m : Md} {xs : List V} (h : WebAt C H p m) (s : Sb f H H') (hf : H f = some (.lst xs)) : WebAt C H' p m :=
  h.keep (fun _ _ e => s _ _ e (ne_of e hf (by intro z; cases z))) (s.kt hf)
/-- what is a name -/
abbrev letters : Str := "abcdefghijklmnopqrstuvwxyz"
def Nm (z : Str) : Prop := 1 ≤ z.length ∧ z.length ≤ 8 ∧ ∀ c ∈ z.cps.toList, c ∈ letters.cps.toList
end Tw

set_option maxHeartbeats 4000000
/-! a try with several clauses, each of one, two or three classes, each with a name -/
namespace Tw
open PySem PySem.Spec PyProof.Rows L2
/-- the classes that a clause names -/
inductive Cls3 (X : Cx) : Expr → List Value → Prop
  | one {x : Str} {c : Value} {np : Pos} (h : Names X x c) : Cls3 X (.Name x np) [c]
  | two {x y : Str} {c d : Value} {p q r : Pos} {kk : Nat} (h1 : Names X x c) (h2 : Names X y d) : Cls3 X (.Tuple [.Name x p, .Name y q] kk r) [c, d]
  | three {x y z : Str} {c d e : Value} {p q r t : Pos} {kk : Nat} (h1 : Names X x c) (h2 : Names X y d) (h3 : Names X z e) : Cls3 X (.Tuple [.Name x p, .Name y q, .Name z r] kk t) [c, d, e]
theorem exm1 {K : PySem.W.Frag} {cls c : Value} {b : Bool} (h : PySem.W.exmAny K cls [c] = some b) : PySem.W.exmOne K cls c = some b := by
  obtain ⟨b1, d1, h1, h2, e⟩ := PySem.W.exmAny_cons h
  have e2 : d1 = false := (Option.some.inj h2).symm
  rw [e, e2, Bool.or_false]
  exact h1
section
variable {X : Cx} {a : Addr} {pn : List (Addr × Obj)} {σ : L2.St} {H : Hp}
theorem named {s : Shared} {x : Str} {c : Value} {np : Pos} {Q : Value → Shared → Prop} {E : Value → Shared → Prop} (S : Inv (X.suite a pn) [] σ H s) (h : Names X x c) (q : Q c s) : wpAny (model X.prog X.w) (X.A.mark (some (.ref a))) (eval (.Name x np) X.env) Q E s := by
  obtain ⟨hg, hd, hm | ⟨hm, hv, hn⟩⟩ := h
  · exact ld_glob (X := X.suite a pn) S hg hm q hd
  · exact ld_blt (X := X.suite a pn) S hg hm hv q hn hd
/-- whether a clause takes the exception; a tuple of classes is laid -/
theorem cls3_test {s : Shared} {te : Expr} {cs : List Value} {cls : Value} {b : Bool} {Q : Bool → Shared → Prop} {E : Value → Shared → Prop} (T : Cls3 X te cs) (S : Inv (X.suite a pn) [] σ H s) (LT : PySem.W.Looks (model X.prog X.w) s.heap (typeOf (.ref a)) cls) (hb : PySem.W.exmAny X.K cls cs = some b)
    (q : ∀ h', (∀ b o, s.heap.get? b = some o → h'.get? b = some o) → Q b { s with heap := h' }) :
    wpAny (model X.prog X.w) (X.A.mark (some (.ref a))) (eval te X.env) (fun c s₁ => wpAny (model X.prog X.w) (X.A.mark (some (.ref a))) (excMatches (.ref a) c) Q E s₁) E s := by
  have kin : X.K.In s.heap := S.kIn
  cases T with
  | one h => exact named S h ((PySem.W.exm_one kin LT (exm1 hb)).here (q s.heap fun _ _ z => z))
  | @two x y c d p1 p2 p3 kk h1 h2 =>
    have kp : ∀ b o, s.heap.get? b = some o → (s.heap.push { cls := .type "tuple", data := .seq [c, d].toArray }).get? b = some o := fun b o z => Heap.get?_push_of_some _ z
    refine wpAny_Tuple (wpAny_items_cons (named S h1 (wpAny_items_cons (named S h2 (wpAny_items_nil ⟨by show 2 ≤ sizeLine; decide, ?_⟩)))))
    exact (PySem.W.exm_tup2 (kin.keeps kp) (LT.keeps kp) (Heap.get?_push_size s.heap rfl) hb).here (q _ kp)
  | @three x y z c d e p1 p2 p3 p4 kk h1 h2 h3 =>
    have kp : ∀ b o, s.heap.get? b = some o → (s.heap.push { cls := .type "tuple", data := .seq [c, d, e].toArray }).get? b = some o := fun b o z => Heap.get?_push_of_some _ z
    refine wpAny_Tuple (wpAny_items_cons (named S h1 (wpAny_items_cons (named S h2 (wpAny_items_cons (named S h3 (wpAny_items_nil ⟨by show 3 ≤ sizeLine; decide, ?_⟩)))))))
    exact (PySem.W.exm_tup3 (kin.keeps kp) (LT.keeps kp) (Heap.get?_push_size s.heap rfl) hb).here (q _ kp)
end
theorem fly_more {B h h' : Heap} {l : List Env} {e : Addr} {Z : Obj → Prop} (f : HandSPX.FlyingZ B l e Z h) (k : ∀ b o, h.get? b = some o → h'.get? b = some o) : HandSPX.FlyingZ B l e Z h' := by
  obtain ⟨f1, f2, f3, oe, vs, T, oT, ts, t1, t2, t3, t4, t5, t6, t7, t8⟩ := f
  exact ⟨fun b o z => k b o (f1 b o z), f2, f3.of_keeps fun b o z _ => ⟨o, k b o z, rfl⟩, oe, vs, T, oT, ts, k _ _ t1, t2, t3, t4, t5, t6, k _ _ t7, t8⟩
abbrev Hdl := List Value × (Addr → Value → Option Addr → TS)
/-- how a suite with a name in slot i ends -/
def endsAs (i : Nat) (D : Ends) : Ends := { nx := fun σ H => D.nx (σ.set i none) H, rt := D.rt, bk := fun σ H => D.bk (σ.set i none) H, ct := fun σ H => D.ct (σ.set i none) H }
/-- what the clauses wish of an exception, one behind the other -/
def wAsM (K : PySem.W.Frag) (i : Nat) (Wo : WX) (D : Ends) : List Hdl → WX
  | [] => Wo
  | (cs, ts) :: r => fun cls d σ H => ∃ b, PySem.W.exmAny K cls cs = some b ∧ (b = true → ∀ a, H a = none → ts a cls d (endsAs i D) (σ.set i (some (.ref a))) H) ∧ (b = false → wAsM K i Wo D r cls d σ H)
inductive HdAs (X : Cx) (n : Str) : List ExceptHandler → List Hdl → Prop
  | nil : HdAs X n [] []
  | cons {te : Expr} {cs : List Value} {ts : Addr → Value → Option Addr → TS} {st : Stmt} {su : List Stmt} {pos : Pos} {hds : List ExceptHandler} {l : List Hdl} (hc : Cls3 X te cs)
      (hsu : ∀ (a : Addr) (oe : Obj) (cls : Value) (d : Option Addr) (pn : List (Addr × Obj)), Zc cls d oe → (∃ vs, oe.data = .fields vs) → PSs (X.suite a ((a, oe) :: pn)) (st :: su) (ts a cls d)) (r : HdAs X n hds l) :
      HdAs X n (.ExceptHandler (some te) (some n) (st :: su) pos :: hds) ((cs, ts) :: l)
/-- an exception a that has come down at this frame, as the heap h has it; sI: the state without it -/
structure Down (X : Cx) (pins : List (Addr × Obj)) (σ : L2.St) (H : Hp) (sI s' : Shared) (B : Heap) (a : Addr) (cls : Value) (d : Option Addr) (h : Heap) : Prop where
  inv : Inv X pins σ H sI
  ground : ∀ b o, sI.heap.get? b = some o → b ∉ frs X.stack → B.get? b = some o
  fly : HandSPX.FlyingZ B (X.env :: X.outer) a (Zc cls d) h
  up : sI.heap.UpToSlots h
  free : H a = none
  os : s'.os = sI.os
  bare : AllBare s'.gens
/-- what is to be done with an exception of the body -/
def onCatch (X : Cx) (pins : List (Addr × Obj)) (D : Ends) (hds : List ExceptHandler) (e : Value) (s : Shared) : Prop :=
  wpAny (model X.prog X.w) X.A (noteFrame e X.env) (fun _ s1 => wpAny (model X.prog X.w) X.A (setFlight e none) (fun _ s2 => wpAny (model X.prog X.w) X.A (handleBy e X.env hds) (SP X pins D) X.xe s2) X.xe s1) X.xe s
section
variable {X : Cx} {pins : List (Addr × Obj)} {σ : L2.St} {H : Hp} {sI s' : Shared} {B h h' : Heap} {a : Addr} {cls : Value} {d : Option Addr} {i : Nat} {n : Str} {Wo : WX} {D : Ends} {hds : List ExceptHandler} {l : List Hdl}
theorem Down.more (dn : Down X pins σ H sI s' B a cls d h) (k : ∀ b o, h.get? b = some o → h'.get? b = some o) : Down X pins σ H sI s' B a cls d h' := { dn with fly := fly_more dn.fly k, up := dn.up.trans (Heap.UpToSlots.of_keeps k) }
/-- its suite may begin -/
theorem Down.suite (dn : Down X pins σ H sI s' B a cls d h) (hf : X.env.frame = some X.env.locals) : ∃ oe, h.get? a = some oe ∧ Zc cls d oe ∧ (∃ vs, oe.data = .fields vs) ∧ Inv (X.suite a ((a, oe) :: (X.pn ++ pins))) [] σ H { s' with heap := h } := by
  obtain ⟨oe, vs, at_, zc, hd⟩ := dn.fly.there
  have noFrame : ∀ e ∈ X.env :: X.outer, e.frame ≠ some a := fun e he hfr => by
    obtain ⟨_, o, ho, no⟩ := dn.fly.2.2.1.mem (List.mem_filterMap.mpr ⟨e, he, hfr⟩)
    cases ho.symm.trans at_
    exact no _ hd
  refine ⟨oe, at_, zc, ⟨vs, hd⟩, (dn.inv.landed (s' := { s' with heap := h }) dn.ground dn.fly.1 dn.up dn.os dn.bare).suite at_ hd dn.free ?_ ?_⟩
  · rintro rfl
    exact noFrame X.env (.head _) hf
  · intro inFs
    obtain ⟨e, he, hfr⟩ := List.mem_filterMap.mp inFs
    exact noFrame e (.tail _ he) hfr
/-- no clause takes it: it goes on -/
theorem Down.pass (dn : Down X pins σ H sI s' B a cls d h) (hs : X.stack = X.env :: X.outer) (hf : X.env.frame = some X.env.locals) (tk : Takes X Wo) (wish : Wo cls d σ H) : wpAny (model X.prog X.w) X.A (handleBy (.ref a) X.env []) (SP X pins D) X.xe { s' with heap := h } := by
  have goes : ∀ h4, HandSPX.HeldZ B (X.env :: X.outer) a (Zc cls d) X.env.locals h4 → h.UpToSlots h4 → X.xe (.ref a) { s' with heap := h4 } := fun h4 held up4 =>
    tk _ _ ⟨a, B, sI, pins, σ, H, cls, d, rfl, dn.inv, dn.ground, dn.up.trans up4, .inr (.inr (hs ▸ held)), dn.free, dn.os, dn.bare, wish⟩
  obtain ⟨_, _, T, _, _, at_, _, hd, traced, _⟩ := dn.fly.2.2.2
  refine wpAny_handleBy_nil ?_
  unfold PySem.passOn
  rw [hf]
  refine wpAny_bind (wpAny_field at_ hd traced ?_)
  rw [if_neg (by simp)]
  repeat (first | with_reducible refine HandSPX.setFlight_upZ dn.fly fun h4 held up4 => ?_ | with_reducible refine wpAny_throw (goes _ held up4) | wp_step)
/-- behind a suite its name goes -/
theorem suite_ends {q : Addr × Obj} {f : Flow} {s6 : Shared} {pos : Pos} (ok : X.Ok) (hN : X.N.Nodup) (hi : X.N[i]? = some n) (hln : X.env.kindOf n = some .local) (ended : SP (X.suite a (q :: (X.pn ++ pins))) [] (endsAs i D) f s6) :
    wpAny (model X.prog X.w) X.A (do bindName X.env n .none; unbindBehindTheSuite X.env n pos) (fun _ s7 => SP X pins D f s7) X.xe s6 := by
  cases f with
  | ret u =>
    obtain ⟨v, _, H6, S6, r, q6⟩ := ended
    exact gone_ok (S6.unsuite ok) hN hi hln fun s7 J => ⟨v, _, H6, J, r, q6⟩
  | next =>
    obtain ⟨_, H6, S6, q6⟩ := ended
    exact gone_ok (S6.unsuite ok) hN hi hln fun s7 J => ⟨_, H6, J, q6⟩
  | brk =>
    obtain ⟨_, H6, S6, q6⟩ := ended
    exact gone_ok (S6.unsuite ok) hN hi hln fun s7 J => ⟨_, H6, J, q6⟩
  | cont =>
    obtain ⟨_, H6, S6, q6⟩ := ended
    exact gone_ok (S6.unsuite ok) hN hi hln fun s7 J => ⟨_, H6, J, q6⟩
theorem Down.clauses (hs : X.stack = X.env :: X.outer) (hf : X.env.frame = some X.env.locals) (hN : X.N.Nodup) (hi : X.N[i]? = some n) (hln : X.env.kindOf n = some .local) (tk : Takes X Wo) (hh : HdAs X n hds l) :
    ∀ {h : Heap}, Down X pins σ H sI s' B a cls d h → wAsM X.K i Wo D l cls d σ H → wpAny (model X.prog X.w) X.A (handleBy (.ref a) X.env hds) (SP X pins D) X.xe { s' with heap := h } := by
  induction hh with
  | nil => exact fun dn wish => dn.pass hs hf tk wish
  | cons hc hsu _ further =>
    rintro h dn ⟨b, fits, yes, no⟩
    obtain ⟨oe, at_, zc, _, S⟩ := dn.suite hf
    have kind : PySem.W.Looks (model X.prog X.w) h (typeOf (.ref a)) cls := fun _ _ _ _ k q => wpAny_typeOf_ref (k _ _ at_) (by rw [zc.1]; exact q)
    refine wpAny_handleBy_cons (codeAny_handlers_test (cls3_test hc S kind fits fun h6 k6 => ?_)) (fun q => nomatch q)
    cases b with
    | false => exact further (dn.more k6) (no rfl)
    | true =>
      refine codeAny_handlers_suite_as (HandSPX.lands_againZ (dn.more k6).fly fun h4 fl4 up4 => ?_)
      obtain ⟨o4, _, zc4, hd4, S4⟩ := Down.suite { dn.more k6 with fly := fl4, up := (dn.more k6).up.trans up4 } hf
      refine store_ok (X := X.suite a ((a, o4) :: (X.pn ++ pins))) (v := .ref a) S4 hN hi (.inl hln) rfl (fun s5 S5 => ?_) (.inr hln)
      exact wpAny_mono ((hsu a o4 cls d (X.pn ++ pins) zc4 hd4).run [] s5 _ H _ S5 (yes rfl a dn.free)) (fun f s6 ended => suite_ends dn.inv.ok hN hi hln ended) fun _ _ z => z.elim
end
section
variable {X : Cx} {i : Nat} {n : Str} {body : List Stmt} {h₀ : ExceptHandler} {hds : List ExceptHandler} {l : List Hdl} {pos : Pos} {tb : WX → TS} {Wo : WX}
/-- try: body, except (A, B) as n: .., except C as n: .. -/
theorem ps_tryM (hs : X.stack = X.env :: X.outer) (hf : X.env.frame = some X.env.locals) (hN : X.N.Nodup) (hi : X.N[i]? = some n) (hln : X.env.kindOf n = some .local) (tk : Takes X Wo)
    (hb : ∀ (W : WX) (pn : List (Addr × Obj)) (xe : Value → Shared → Prop), Takes (X.tr pn xe) W → PassesOwn (model X.prog X.w) X.A X.env xe → PSs (X.tr pn xe) body (tb W)) (hh : HdAs X n (h₀ :: hds) l) :
    PS X (.Try body (h₀ :: hds) [] [] pos) (fun D σ H => tb (fun cls d σ' H' => σ'.length = X.N.length → wAsM X.K i Wo D l cls d σ' H') D σ H) := by
  constructor
  intro pins s σ H D I h
  have ok := I.ok
  have caught : Takes (X.tr (X.pn ++ pins) (onCatch X pins D (h₀ :: hds))) (fun cls d σ' H' => σ'.length = X.N.length → wAsM X.K i Wo D l cls d σ' H') := by
    rintro _ s1 ⟨a, B, sI, _, σ1, H1, cls, d, rfl, J, ground, up, sky, free, os, bare, wish⟩
    exact Sky.land Zc.steady (ok.frames.trans (congrArg some hs)) hf (hs ▸ sky) fun h3 fly up3 => Down.clauses hs hf hN hi hln tk hh ⟨J.ofTry ok, ground, fly, up.trans up3, free, os, bare⟩ (wish J.len)
  refine wpAny_Try_except (wpAny_mono ((hb _ _ _ caught PassesOwn.looking).run [] s σ H D (I.toTry _) h) (fun f s1 ended => ?_) fun _ _ z => z)
  cases f with
  | ret u =>
    obtain ⟨v, σ1, H1, J, r, q⟩ := ended
    exact ⟨v, σ1, H1, J.ofTry ok, r, q⟩
  | next =>
    obtain ⟨σ1, H1, J, q⟩ := ended
    exact wpAny_execs_nil ⟨σ1, H1, J.ofTry ok, q⟩
  | brk =>
    obtain ⟨σ1, H1, J, q⟩ := ended
    exact ⟨σ1, H1, J.ofTry ok, q⟩
  | cont =>
    obtain ⟨σ1, H1, J, q⟩ := ended
    exact ⟨σ1, H1, J.ofTry ok, q⟩
end
end Tw

set_option maxHeartbeats 4000000
/-! own exceptions: fields read in a suite, __init__ called through its class, defs that raise, the head with tables -/
namespace Tw
open PySem PySem.Spec PyProof.Rows L2
/-! ### a field of the caught exception, whatever its class -/
def tXw (K : PySem.W.Frag) (a : Addr) (cls : Value) (d : Option Addr) (f : Str) (te : TE) : TE := fun σ H Q => te σ H fun x H1 => x = .ref a ∧ ∃ (C dd : Addr) (fs : List (Str × V)) (v : V), cls = .ref C ∧ XfC K C ∧ PySem.W.findIn K (.ref C) f = some none ∧ d = some dd ∧ H1 dd = some (.xd fs) ∧ fs.lookup f = some v ∧ Q v H1
theorem xd_field {P : Program} {w : World} {H : Hp} {h : Heap} {dd : Addr} {fs : List (Str × V)} {n : Str} {v : V} (hok : HOk P w H h) (at_ : H dd = some (.xd fs)) (l : fs.lookup n = some v) : ∃ od z, h.get? dd = some od ∧ PySem.W.lookIn n od = some (some z) ∧ RelV v z := by
  obtain ⟨m, ns, rel⟩ := (show ObjOk P w H h dd (.xd fs) from hok dd _ at_)
  obtain ⟨od, ho, look⟩ := lookIn_ns ns
  obtain ⟨z, hz, rz⟩ := RelO.some_of (v := v) (o := m n) (l ▸ rel n)
  exact ⟨od, z, ho, (look n).trans (congrArg some hz), rz⟩
theorem pe_xw {X : Cx} {a : Addr} {oe : Obj} {cls : Value} {d : Option Addr} {pn : List (Addr × Obj)} {e : Expr} {te : TE} {pos : Pos} {n : Str} (hz : Zc cls d oe) (hf : ∃ vs, oe.data = .fields vs) (he : PE (X.suite a ((a, oe) :: pn)) e te)
    (hb : attributeBase e n X.env (eval e X.env) = eval e X.env := by rfl) : PE (X.suite a ((a, oe) :: pn)) (.Attribute e n pos) (tXw X.K a cls d n te) := by
  constructor
  intro pins s σ H Q I h
  refine attr_of hb (thn (he.run pins s σ H _ I h) ?_)
  rintro _ s1 ⟨_, H1, I1, obj, rfl, C, dd, fs, v, rfl, T, no, rfl, ea, l, q⟩
  cases (show _ = Value.ref a from obj)
  obtain ⟨od, z, ho, look, rz⟩ := xd_field I1.hok ea l
  obtain ⟨vs, hd⟩ := hf
  have caught : s1.heap.get? a = some oe := (I1.pin (a, oe) (by simp)).1
  have whole : PySem.W.InstAt s1.heap a oe C (some od) := ⟨caught, hz.1, by simp [PySem.W.notCls, hd], by simpa [hz.2] using ho⟩
  exact HandSPX.exc_get I1.kIn whole T.ga T.gg T.exC (PySem.W.findObj_own T.hdC no rfl look) (handed_of rz) ⟨v, H1, I1.tok _, rz, q⟩
/-! ### the forms of a text: plain values only -/
/-- x(e, ..) -/
structure Flat (X : Cx) (x : Str) (e : Expr) (es : List Expr) (pos : Pos) : Prop where
  dbg : (x == ("__debug__" : Str)) = false
  first : starEach (e :: es) X.env = (false, eval e X.env) :: starEach es X.env
  plain : (backTo pos (starEach es X.env)).any (·.1) = false
/-- o.m(e, ..) -/
structure MeForm (X : Cx) (pl : Sem Bool) (o e : Expr) (es : List Expr) (m : Str) (apos pos : Pos) : Prop where
  first : starEach (e :: es) X.env = (false, eval e X.env) :: starEach es X.env
  plain : (backTo pos (starEach es X.env)).any (·.1) = false
  steps : eval (.Call (.Attribute o m apos) (e :: es) [] pos) X.env =
    (eval o X.env >>= fun ov => standAt apos.atName >>= fun _ => holding [ov] (getMethod ov m pl) >>= fun g => callWith pos g.1 g.2 (backTo pos (starEach (e :: es) X.env)) (backToKw pos (keywordEach [] X.env)))
/-! ### x.m(..): a def read off a class -/
structure ClsDef (K : PySem.W.Frag) (C f : Addr) (m : Str) : Prop where
  reads : PySem.W.readsIn K C (.type "type") = true
  special : PySem.W.specialIn K (.ref C) "__getattribute__" = some (some (.builtin "type.__getattribute__"))
  find : PySem.W.findCls K (.ref C) (.type "type") m = some (.val (.ref f))
section
variable {X : Cx} {k j : Nat} {f C : Addr} {fd : FuncData} {ps : List Str} {sp : Sp} {x m : Str} {p1 p2 pos : Pos} {e : Expr} {es : List Expr} {t : TA} {pl : Sem Bool}
theorem pe_ci (T : ClsDef X.K C f m) (hg : Gl X x) (hm : X.mg x = some (.ref C)) (hk : PySem.W.keepIn X.K (.ref f) = true) (F : FnOk X.prog X.w X.K X.mg X.base CX0 k f fd ps sp) (hr : Room j X.A) (hj : k ≤ j) (hb : Binds X.K fd ps []) (ha : PA X (e :: es) t)
    (form : MeForm X pl (.Name x p1) e es m p2 pos := by exact ⟨rfl, rfl, rfl⟩) (hdb : (x == ("__debug__" : Str)) = false := by decide) :
    PE X (.Call (.Attribute (.Name x p1) m p2) (e :: es) [] pos) (tCall sp [] E0 t) := by
  constructor
  intro pins s σ H Q I h
  refine PySem.W.methodCall_KW (pl := pl) (ld_glob I hg hm (PySem.W.method_cls I.kIn T.special (PySem.W.cls_value I.kIn T.reads T.find rfl ?_)) hdb) form.steps
  refine PySem.W.callWith_K (first := []) (h₀ := X.base) I.ok.mod.kin hk (thn (ha.run pos pins _ σ H _ (I.tok _) h) ?_) form.first form.plain
  rintro us s2 ⟨vs, H2, I2, r, q2⟩
  exact ⟨I2.kIn, run_fn (us := us) (vs := vs) F (hr.mono hj) hb .nil pass0 I2 r q2⟩
end
/-! ### defs that raise -/
structure CalX (P : Program) (w : World) (K : PySem.W.Frag) (mg : Str → Option Value) (base : Heap) (k : Nat) (x : Str) (sp : Sp) : Prop where
  ex : ∃ (f : Addr) (fd : FuncData) (ps : List Str), FnOk P w K mg base (L2.CX P w) k f fd ps sp ∧ mg x = some (.ref f) ∧ PySem.W.keepIn K (.ref f) = true ∧ Binds K fd ps []
structure MetX (P : Program) (w : World) (K : PySem.W.Frag) (mg : Str → Option Value) (base : Heap) (k : Nat) (C : Addr) (m : Str) (sp : Sp) : Prop where
  ex : ∃ (f : Addr) (fd : FuncData) (ps : List Str), Cls K C ∧ Meth K C m f ∧ FnOk P w K mg base (L2.CX P w) k f fd ps sp ∧ Binds K fd ps []
/-- the body's part, what is raised told -/
abbrev BodyX (P : Program) (w : World) (K : PySem.W.Frag) (mg : Str → Option Value) (base : Heap) (k : Nat) (N : List Str) (qual : Str) (body : List Stmt) (scope : Scope) (f : Addr) (sp : Sp) : Prop :=
  ∀ (cdv : Value) (A : Around) (outer : List Env) (s : Shared) (H : Hp) (vs : List V) (Q : VK) (E : XK), Room k (A.deeper (envOfC qual scope s.heap.objs.size f cdv)) → sp vs H Q E →
    Takes (cxOf (L2.CX P w) P w K mg base N qual scope f cdv A outer s H E) (fun cls d _ H' => E cls d H') → ∃ t, PSs (cxOf (L2.CX P w) P w K mg base N qual scope f cdv A outer s H E) body t ∧ t { nx := fun _ H' => Q .non H', rt := Q } (start N vs) H
section
variable {P : Program} {w : World} {K : PySem.W.Frag} {mg : Str → Option Value} {base : Heap} {x qual : Str} {params : Arguments} {body : List Stmt} {scope : Scope} {f C : Addr} {fd : FuncData} {N ps : List Str} {k : Nat} {sp : Sp} {dvs : List V} {kws : List (Str × V)}
theorem fnx_of (F : FunD K x qual params body scope dvs kws f fd) (S : FnScope N ps scope) (len : ∀ vs H Q E, sp vs H Q E → vs.length = ps.length) (hb : BodyX P w K mg base k N qual body scope f sp) : FnOk P w K mg base (L2.CX P w) (k + 1) f fd ps sp :=
  F.ok S len fun cdv A outer s H vs Q E hr hsp => hb cdv A outer s H vs Q E hr hsp (takes_of rfl rfl rfl rfl)
theorem calx_of (F : FunD K x x params body scope [] [] f fd) (hm : mg x = some (.ref f)) (b : Binds K fd ps []) (S : FnScope N ps scope) (len : ∀ vs H Q E, sp vs H Q E → vs.length = ps.length) (hb : BodyX P w K mg base k N x body scope f sp) : CalX P w K mg base (k + 1) x sp :=
  ⟨f, fd, ps, fnx_of F S len hb, hm, F.kp, b⟩
theorem metx_of (F : FunD K x qual params body scope dvs kws f fd) (c : Cls K C) (me : Meth K C x f) (b : Binds K fd ps []) (S : FnScope N ps scope) (len : ∀ vs H Q E, sp vs H Q E → vs.length = ps.length) (hb : BodyX P w K mg base k N qual body scope f sp) : MetX P w K mg base (k + 1) C x sp :=
  ⟨f, fd, ps, c, me, fnx_of F S len hb, b⟩
end
section
variable {X : Cx} {k j : Nat} {C : Addr} {x m : Str} {sp : Sp} {p pos apos : Pos} {e o : Expr} {es : List Expr} {ta : TE} {t : TA} {W : WX} {E : XK}
theorem pe_cx (c : CalX X.prog X.w X.K X.mg X.base k x sp) (tk : Takes X W) (hW : ∀ cls d σ H, E cls d H → W cls d σ H) (hr : Room j X.A) (hk : k ≤ j) (hg : Gl X x) (ha : PA X (e :: es) t) (form : Flat X x e es pos := by exact ⟨by decide, rfl, rfl⟩) :
    PE X (.Call (.Name x p) (e :: es) [] pos) (tCall sp [] E t) :=
  let ⟨_, _, _, F, at_, kept, b⟩ := c.ex
  pe_call F (hr.mono hk) hg at_ kept b .nil (passes_call tk hW) ha form.dbg form.first form.plain
theorem pe_mx {pl : Sem Bool} (c : MetX X.prog X.w X.K X.mg X.base k C m sp) (tk : Takes X W) (hW : ∀ cls d σ H, E cls d H → W cls d σ H) (hr : Room j X.A) (hk : k ≤ j) (he : PE X o ta) (ha : PA X (e :: es) t) (form : MeForm X pl o e es m apos pos := by exact ⟨rfl, rfl, rfl⟩) :
    PE X (.Call (.Attribute o m apos) (e :: es) [] pos) (tMeth C m sp [] E ta t) :=
  let ⟨_, _, _, cls, me, F, b⟩ := c.ex
  pe_meth (pl := pl) he cls me F (hr.mono hk) b .nil (passes_call tk hW) ha form.first form.plain form.steps
end
/-! ### the head: facts, one more Bool, the tables of some defs -/
def frY (g : Addr → Option Obj) (n : Nat) : PySem.W.Frag := He.frT g (He.asD g n ++ [cStatics])
structure SaysY (fa : List He.Fa) (fn : List He.DefD) (tf : List He.Defn) (ex : PySem.W.Frag → Bool) (h : Heap) (K : PySem.W.Frag) : Prop where
  d : He.SaysD fa fn K
  more : ex K = true
  code : ∀ p ∈ tf, PySem.W.codeHdIn K (He.cT K p).1 (He.cT K p).2 = true
  out : ∀ p ∈ tf, K.lookup (He.cT K p).2 = none
  empty : ∀ p ∈ tf, h.get? (He.cT K p).2 = some { cls := .none, data := .fields #[] }
abbrev AlY : Type := He.AlD × Bool
def obsY (n : Nat) (fa : List He.Fa) (fn : List He.DefD) (tf : List He.Defn) (ex : PySem.W.Frag → Bool) (g : Addr → Option Obj) : AlY := (He.obsD fa fn (frY g n), ex (frY g n) && He.tabsB g tf (frY g n))
theorem saysY_of {n : Nat} {fa : List He.Fa} {fn : List He.DefD} {tf : List He.Defn} {ex : PySem.W.Frag → Bool} {h : Heap} (e : obsY n fa fn tf ex h.get? = (He.valD fn, true)) : SaysY fa fn tf ex h (frY h.get? n) := by
  have e1 : He.obsD fa fn (frY h.get? n) = He.valD fn := congrArg (fun z : AlY => z.1) e
  have e2 : (ex (frY h.get? n) && He.tabsB h.get? tf (frY h.get? n)) = true := congrArg (fun z : AlY => z.2) e
  obtain ⟨h1, h2⟩ := Bool.and_eq_true_iff.mp e2
  have tab : ∀ p ∈ tf, PySem.W.codeHdIn (frY h.get? n) (He.cT (frY h.get? n) p).1 (He.cT (frY h.get? n) p).2 = true ∧ ∃ o, h.get? (He.cT (frY h.get? n) p).2 = some o ∧ He.emptyTab o = true := fun p hp => by
    obtain ⟨h3, h4⟩ := Bool.and_eq_true_iff.mp (List.all_eq_true.mp h2 p hp)
    refine ⟨h3, ?_⟩
    cases q : h.get? (He.cT (frY h.get? n) p).2 with
    | none => rw [q] at h4; cases h4
    | some o => rw [q] at h4; exact ⟨o, rfl, h4⟩
  refine ⟨e1, h1, fun p hp => (tab p hp).1, fun p hp => ?_, fun p hp => ?_⟩
  · obtain ⟨_, o, q, z⟩ := tab p hp
    exact He.frT_none q z
  · obtain ⟨_, o, q, z⟩ := tab p hp
    rw [q]
    exact congrArg some (He.emptyTab_eq z)
def hookY (n : Nat) (fa : List He.Fa) (fn : List He.DefD) (tf : List He.Defn) (ex : PySem.W.Frag → Bool) : PySem.W.Hook where
  α := AlY
  obs := fun s => obsY n fa fn tf ex s.heap.get?
  val := fun _ => (He.valD fn, true)
  says := fun _ h => ∃ K : PySem.W.Frag, K.In h ∧ SaysY fa fn tf ex h K
  of := fun _ _ e => ⟨_, He.frT_in, saysY_of e⟩
  keeps := fun _ _ _ ⟨K, hK, c⟩ k => ⟨K, hK.keeps k, c.d, c.more, c.code, c.out, fun p hp => k _ _ (c.empty p hp)⟩
theorem obsY_eq {n : Nat} {fa : List He.Fa} {fn : List He.DefD} {tf : List He.Defn} {ex : PySem.W.Frag → Bool} {g : Addr → Option Obj} {s : Shared} (h : ∀ a, g a = s.heap.get? a) : obsY n fa fn tf ex g = (hookY n fa fn tf ex).obs s := by
  have e : g = s.heap.get? := funext h
  rw [e]
  rfl
def clsDefB (K : PySem.W.Frag) (C f : Addr) (m : Str) : Bool := PySem.W.readsIn K C (.type "type") && (decide (PySem.W.specialIn K (.ref C) "__getattribute__" = some (some (.builtin "type.__getattribute__"))) && (match PySem.W.findCls K (.ref C) (.type "type") m with
  | some (.val (.ref g)) => decide (g = f)
  | _ => false))
theorem clsDefB_ok {K : PySem.W.Frag} {C f : Addr} {m : Str} (h : clsDefB K C f m = true) : ClsDef K C f m := by
  obtain ⟨h1, h⟩ := Bool.and_eq_true_iff.mp h
  obtain ⟨h2, h3⟩ := Bool.and_eq_true_iff.mp h
  refine ⟨h1, of_decide_eq_true h2, ?_⟩
  split at h3
  · rename_i g e
    rw [e, of_decide_eq_true h3]
  · cases h3
/-- the __init__ of an own class -/
structure InitAt (K : PySem.W.Frag) (C f : Addr) : Prop where
  find : PySem.W.findIn K (.ref C) "__init__" = some (some (.ref f))
  fn : PySem.W.typeIn K (.ref f) = some (.type "function")
def initB (K : PySem.W.Frag) (C : Addr) : Bool := decide (PySem.W.findIn K (.ref C) "__init__" = some (some (.ref (He.ma K C "__init__")))) && decide (PySem.W.typeIn K (.ref (He.ma K C "__init__")) = some (.type "function"))
theorem initB_ok {K : PySem.W.Frag} {C : Addr} (h : initB K C = true) : InitAt K C (He.ma K C "__init__") :=
  let ⟨h1, h2⟩ := Bool.and_eq_true_iff.mp h
  ⟨of_decide_eq_true h1, of_decide_eq_true h2⟩
/-- a def with defaults, all parameters handed in -/
theorem bindsD {K : PySem.W.Frag} {x qual : Str} {params : Arguments} {body : List Stmt} {scope : Scope} {dvs : List V} {kws : List (Str × V)} {f : Addr} {fd : FuncData} {ps : List Str} (F : FunD K x qual params body scope dvs kws f fd)
    (h : ∀ (dV kV doc pm : Value) (an : Option Addr) (cdv ct : Value) (us : List Value), us.length = ps.length → bindArgs (PySem.W.fnOf x qual params body scope dV kV doc pm an cdv ct) ⟨us, []⟩ = pure (ps.zip us)) : Binds K fd ps [] := by
  obtain ⟨_, _, dV, kV, doc, pm, an, cdv, ct, _, rfl, _⟩ := F.ex
  exact .all (h dV kV doc pm an cdv ct)
def viB (K : PySem.W.Frag) (b i : String) : Bool := match PySem.W.findCls K (.type b) (.type "type") "__init__" with
  | some (.val (.builtin j)) => decide (j = i)
  | _ => false
theorem viB_ok {K : PySem.W.Frag} {b i : String} (h : viB K b i = true) : PySem.W.findCls K (.type b) (.type "type") "__init__" = some (.val (.builtin i)) := by
  unfold viB at h
  split at h
  · rename_i j e
    rw [e, of_decide_eq_true h]
  · cases h
end Tw

set_option maxHeartbeats 4000000
/-! own exception classes over any of some built-in ones: made, stored into, raised. The class is read off by the library's excInitIn, excOver, hasDictIn; the store goes by osa_openX. -/
namespace Tw
open PySem PySem.Spec PyProof.Rows L2
/-- a built-in class of exceptions: its name, its makers, the line of its elders -/
structure Bs where
  name : String
  newId : String
  initId : String
  tail : List Value
structure BsOk (b : Bs) : Prop where
  fac : ExcBaseFacts b.name b.newId b.initId b.tail
  sto : StoreFacts b.name b.tail "object.__setattr__" "object"
  typ : typeOf (.type b.name) = pure (.type "type")
  stub : Manifest.isStub b.name = false
abbrev bVE : Bs := ⟨"ValueError", "ValueError.__new__", "ValueError.__init__", [.type "ValueError", .type "Exception", .type "BaseException", .type "object"]⟩
abbrev bLE : Bs := ⟨"LookupError", "LookupError.__new__", "LookupError.__init__", [.type "LookupError", .type "Exception", .type "BaseException", .type "object"]⟩
abbrev bRE : Bs := ⟨"RuntimeError", "RuntimeError.__new__", "RuntimeError.__init__", [.type "RuntimeError", .type "Exception", .type "BaseException", .type "object"]⟩
abbrev bIE : Bs := ⟨"IndexError", "IndexError.__new__", "IndexError.__init__", [.type "IndexError", .type "LookupError", .type "Exception", .type "BaseException", .type "object"]⟩
theorem bb_ValueError : bootBuiltins "ValueError" = some (.type "ValueError") := by decide +kernel
theorem bb_LookupError : bootBuiltins "LookupError" = some (.type "LookupError") := by decide +kernel
theorem bb_RuntimeError : bootBuiltins "RuntimeError" = some (.type "RuntimeError") := by decide +kernel
theorem bb_IndexError : bootBuiltins "IndexError" = some (.type "IndexError") := by decide +kernel
theorem bVE_ok : BsOk bVE := ⟨F.excBase_ValueError, F.store_ValueError, by kernel_rfl, by decide +kernel⟩
theorem bIE_ok : BsOk bIE := ⟨F.excBase_IndexError, F.store_IndexError, by kernel_rfl, by decide +kernel⟩
theorem bLE_ok : BsOk bLE := ⟨F.excBase_LookupError, F.store_LookupError, by kernel_rfl, by decide +kernel⟩
theorem bRE_ok : BsOk bRE := ⟨F.excBase_RuntimeError, F.store_RuntimeError, by kernel_rfl, by decide +kernel⟩
/-- what the written part says of an own class over b -/
structure OxC (b : Bs) (K : PySem.W.Frag) (C : Addr) : Prop where
  ok : BsOk b
  makes : PySem.W.excInitIn K C b.tail b.newId = true
  over : PySem.W.excOver K C b.tail = true
  dict : PySem.W.hasDictIn K C = true
  store : PySem.W.findIn K (.ref C) "__setattr__" = some (some (.builtin "object.__setattr__"))
  exc : PySem.W.subIn K (.ref C) (.type "BaseException") = some true
  typ : PySem.W.typeIn K (.ref C) = some (.type "type")
  keep : PySem.W.keepIn K (.ref C) = true
def oxB (b : Bs) (K : PySem.W.Frag) (C : Addr) : Bool :=
  [PySem.W.excInitIn K C b.tail b.newId, PySem.W.excOver K C b.tail, PySem.W.hasDictIn K C, decide (PySem.W.findIn K (.ref C) "__setattr__" = some (some (.builtin "object.__setattr__"))), decide (PySem.W.subIn K (.ref C) (.type "BaseException") = some true), decide (PySem.W.typeIn K (.ref C) = some (.type "type")), PySem.W.keepIn K (.ref C)].all id
theorem oxB_ok {b : Bs} (okb : BsOk b) {K : PySem.W.Frag} {C : Addr} (h : oxB b K C = true) : OxC b K C := by
  simp only [oxB, List.all_cons, List.all_nil, id, Bool.and_true, Bool.and_eq_true, decide_eq_true_eq] at h
  obtain ⟨q1, q2, q3, q4, q5, q6, q7⟩ := h
  exact ⟨okb, q1, q2, q3, q4, q5, q6, q7⟩
section
variable {b : Bs} {X : Cx} {pins : List (Addr × Obj)} {σ : L2.St} {H : Hp} {s : Shared} {a C dx : Addr} {f : Str} {y : V} {u : Value} {fs : List (Str × V)} {E : Value → Shared → Prop} {A : Around}
theorem taker0 {K : PySem.W.Frag} (no : PySem.W.findIn K (.ref C) f = some none) : PySem.W.takerIn K C f = some none := by
  unfold PySem.W.takerIn
  rw [no]
  rfl
/-- the first field: a dict is laid, then the exception is made to hold it -/
theorem oxs_first {Q : Unit → Shared → Prop} (T : OxC b X.K C) (I : Inv X pins σ H s) (e : H a = some (exo a C none)) (no : PySem.W.findIn X.K (.ref C) f = some none) (ry : RelV y u)
    (h : ∀ dx s', H dx = none → dx ≠ a → Inv X pins σ (upd (upd H dx (exd dx [(f, y)])) a (exo a C (some dx))) s' → Q () s') : wpAny (model X.prog X.w) A (setAttr (.ref a) f u) Q E s := by
  obtain ⟨t1, old⟩ := exo_at I.hok e
  obtain ⟨hp, g, d, t, os⟩ := s
  obtain ⟨cd, hc, hd⟩ := PySem.W.any_some T.dict
  have ne : a ≠ hp.objs.size := Nat.ne_of_lt (Heap.lt_size old)
  refine PySem.W.set_plain (od := none) I.kIn ⟨old, rfl, rfl, trivial⟩ T.store (PySem.W.osa_openX (od := none) T.ok.sto I.kIn ⟨old, rfl, rfl, trivial⟩ T.over (taker0 no) fun _ => ?_)
  refine wpAny_bind (wpAny_pure (wpAny_bind (PySem.W.instanceDict_exc old (PySem.W.looks_clsIn I.kIn hc) hd ?_)))
  have held : ((hp.push (PySem.W.dictOf [] 0)).update a fun o => { o with dict := some hp.objs.size }).get? a = some { cls := .ref C, dict := some hp.objs.size, data := .fields #[.ref t1, .none, .none, .none, .bool false, .none] } := Heap.get?_update_self _ (Heap.get?_push_of_some _ old) rfl
  refine HandSPX.store_in_new ⟨_, #[], _, (Heap.get?_update_ne _ _ _ _ ne.symm).trans (Heap.get?_push_at rfl rfl), rfl, fun e he => absurd he (by simp), fun _ => rfl⟩ fun h' tk' hn hs => ?_
  have atA : h'.get? a = _ := (hs.2 a ne).trans held
  -- the heap between: the dict filled, the exception not yet touched
  have back : (h'.update a fun _ => { cls := .ref C, dict := none, data := .fields #[.ref t1, .none, .none, .none, .bool false, .none] }).get? a = some { cls := .ref C, dict := none, data := .fields #[.ref t1, .none, .none, .none, .bool false, .none] } := Heap.get?_update_self _ atA rfl
  have mid := I.laid (h' := h'.update a fun _ => { cls := .ref C, dict := none, data := .fields #[.ref t1, .none, .none, .none, .bool false, .none] }) (t' := tk') (o := exd hp.objs.size [(f, y)]) (fun c o q => ?_) (Nat.le_refl _)
    (exd_ok (hn.at fun o q => (Heap.get?_update_ne _ _ _ _ ne.symm).trans q) (relO_put (fs := []) ry fun _ => True.intro))
  · refine h hp.objs.size _ (I.hok.fresh (Nat.le_refl _)) ne.symm (mid.write (h' := h') (t' := tk') (x := a) (e := a) (o := exo a C (some hp.objs.size)) (by rw [upd_ne ne, e]; exact True.intro) (.inl rfl) (fun c o hc q => ?_) ⟨_, atA⟩ (exo_ok atA))
    exact (Heap.get?_update_ne _ _ _ _ hc).symm.trans q
  · by_cases hca : c = a
    · subst hca
      rw [back]
      exact old.symm.trans q
    · rw [Heap.get?_update_ne _ _ _ _ hca, hs.2 c (Nat.ne_of_lt (Heap.lt_size q)), Heap.get?_update_ne _ _ _ _ hca]
      exact Heap.get?_push_of_some _ q
/-- a further field -/
theorem oxs_more {Q : Unit → Shared → Prop} (T : OxC b X.K C) (I : Inv X pins σ H s) (e : H a = some (exo a C (some dx))) (ed : H dx = some (exd dx fs)) (hl : fs.length ≤ 900) (no : PySem.W.findIn X.K (.ref C) f = some none) (ry : RelV y u) (h : ∀ s', Inv X pins σ (upd H dx (exd dx ((f, y) :: fs))) s' → Q () s') :
    wpAny (model X.prog X.w) A (setAttr (.ref a) f u) Q E s := by
  obtain ⟨t1, old⟩ := exo_at I.hok e
  obtain ⟨m0, ns, rel⟩ := exd_at I.hok ed
  obtain ⟨hp, g, d, t, os⟩ := s
  obtain ⟨cd, hc, hd⟩ := PySem.W.any_some T.dict
  obtain ⟨od, _, _, atD, _⟩ := ns.count (within_of rel)
  refine PySem.W.set_plain (od := some od) I.kIn ⟨old, rfl, rfl, atD⟩ T.store (PySem.W.osa_openX (od := some od) T.ok.sto I.kIn ⟨old, rfl, rfl, atD⟩ T.over (taker0 no) fun _ => ?_)
  refine wpAny_bind (wpAny_pure (wpAny_bind (wpAny_bind (wpAny_loadPart old (wpAny_bind ((PySem.W.looks_clsIn I.kIn hc).at ?_))))))
  rw [hd]
  refine wpAny_pure (a := some dx) (PySem.OEX.store_in_old ns (within_of rel) (by rw [List.length_map]; omega) fun h' tk' hn hs => ?_)
  obtain ⟨_, _, _, there, _⟩ := id hn
  exact h _ (I.write (t' := tk') (x := dx) (e := dx) (o := exd dx ((f, y) :: fs)) (by rw [ed]; exact True.intro) (.inl rfl) (fun c o hc q => (hs.2 c hc).trans q) ⟨_, there⟩ (exd_ok hn (relO_put ry rel)))
theorem upd_idem {o : HO} (e : H a = some o) : upd H a o = H := funext fun c => by
  by_cases hc : c = a
  · subst hc
    exact upd_same.trans e.symm
  · exact upd_ne hc
/-- B.__init__ of the built-in class: the exception keeps its shape -/
theorem ox_init {us : List Value} {Q : Value → Shared → Prop} (T : OxC b X.K C) (I : Inv X pins σ H s) (e : H a = some (exo a C none)) (hl : us.length ≤ sizeLine) (h : ∀ s', Inv X pins σ H s' → Q .none s') : wpAny (model X.prog X.w) A (call (.builtin b.initId) (.ref a :: us)) Q E s := by
  obtain ⟨_, _, _, _, _, _, _, _, _, _, _, _, _, _, _, _, cls, line⟩ := PySem.W.excInit_of I.kIn T.makes
  obtain ⟨t1, old⟩ := exo_at I.hok e
  obtain ⟨hp, g, d, t, os⟩ := s
  refine wpAny_call (PySem.HandSPX.init_base T.ok.fac line cls old hl fun h' t2 k new => h _ ?_)
  have J := I.write (t' := t) (x := a) (e := a) (o := exo a C none) (by rw [e]; exact True.intro) (.inl rfl) k ⟨_, new⟩ (exo_ok new)
  rwa [upd_idem e] at J
end
/-- B.__init__(self, ..), B the built-in one -/
def tBi (b : Bs) (K : PySem.W.Frag) (ta : TA) : TE := fun σ H Q => ta σ H fun vs H1 => ∃ (a C : Addr) (ws : List V), vs = .ref a :: ws ∧ ws.length ≤ 1000 ∧ OxC b K C ∧ H1 a = some (exo a C none) ∧ Q .non H1
/-- self.f = e -/
def tOx (b : Bs) (K : PySem.W.Frag) (f : Str) (to te : TE) : TS := fun D σ H => te σ H fun y H1 => to σ H1 fun x H2 => ∃ a C : Addr, x = .ref a ∧ OxC b K C ∧ PySem.W.findIn K (.ref C) f = some none ∧
  ((H2 a = some (exo a C none) ∧ ∀ dx, H2 dx = none → dx ≠ a → D.nx σ (upd (upd H2 dx (exd dx [(f, y)])) a (exo a C (some dx)))) ∨ ∃ (dx : Addr) (fs : List (Str × V)), H2 a = some (exo a C (some dx)) ∧ H2 dx = some (exd dx fs) ∧ fs.length ≤ 900 ∧ D.nx σ (upd H2 dx (exd dx ((f, y) :: fs))))
section
variable {b : Bs} {X : Cx} {o e : Expr} {es : List Expr} {to te : TE} {ta : TA} {f x : Str} {p p' p1 p2 pos : Pos} {pl : Sem Bool}
theorem pe_binit (okb : BsOk b) (hv : bootBuiltins x = some (.type b.name)) (hg : Gl X x) (hm : X.mg x = none) (vV : PySem.W.findCls X.K (.type b.name) (.type "type") "__init__" = some (.val (.builtin b.initId))) (hh : PySem.W.handedIn (.builtin b.initId) = true) (ha : PA X (e :: es) ta)
    (form : MeForm X pl (.Name x p1) e es "__init__" p2 pos := by exact ⟨rfl, rfl, rfl⟩) (hn : x ≠ "__name__" := by decide) (hdb : (x == ("__debug__" : Str)) = false := by decide) :
    PE X (.Call (.Attribute (.Name x p1) "__init__" p2) (e :: es) [] pos) (tBi b X.K ta) := by
  constructor
  intro pins s σ H Q I h
  obtain ⟨_, fr⟩ := I.fr
  refine PySem.W.methodCall_KW (pl := pl) (ld_blt I hg hm hv (PySem.W.method_type fr I.ok.mod.kin okb.typ okb.stub vV hh ?_) hn hdb) form.steps
  refine PyProof.Rows.callWith_method1 (thn (ha.run pos pins _ σ H _ (I.tok _) h) ?_) form.first form.plain
  rintro _ s1 ⟨_, H1, I1, rel, a, C, ws, rfl, hl, T, ea, q⟩
  cases rel with
  | cons ra rr =>
    cases (show _ = Value.ref a from ra)
    exact ox_init T I1 ea (Nat.le_trans (Nat.le_of_eq (Paired.length rr).symm) (by rw [sizeLine_eq]; omega)) fun s' J => ⟨.non, H1, J, rfl, q⟩
theorem ps_ox (ho : PE X o to) (he : PE X e te) (hs : swapsWith e (some (.Attribute o f p')) pos.line X.env = pure false := by rfl) : PS X (.Assign [.Attribute o f p'] e pos) (tOx b X.K f to te) := by
  constructor
  intro pins s σ H D I h
  refine plainObj_wpAny_Assign_Attribute (thn (he.run pins s σ H _ I h) ?_) hs
  rintro v s1 ⟨y, H1, I1, ry, q1⟩
  refine thn (ho.run pins s1 σ H1 _ I1 q1) ?_
  rintro _ s2 ⟨_, H2, I2, ro, a, C, rfl, T, no, new | more⟩ <;> cases (show _ = Value.ref a from ro)
  · exact oxs_first T I2 new.1 no ry fun dx s' n ne J => ⟨σ, _, J, new.2 dx n ne⟩
  · obtain ⟨dx, fs, ea, ed, hl, q⟩ := more
    exact oxs_more T I2 ea ed hl no ry fun s' J => ⟨σ, _, J, q⟩
/-- an own exception class over b that is made by its name -/
structure MkB (b : Bs) (P : Program) (w : World) (K : PySem.W.Frag) (mg : Str → Option Value) (base : Heap) (k : Nat) (x : Str) (C : Addr) (sp : Sp) : Prop where
  ex : ∃ (f : Addr) (fd : FuncData) (ps : List Str), OxC b K C ∧ InitAt K C f ∧ FnOk P w K mg base CX0 k f fd ps sp ∧ mg x = some (.ref C) ∧ Binds K fd ps []
theorem pmk_b {k j : Nat} {C : Addr} {sp : Sp} (c : MkB b X.prog X.w X.K X.mg X.base k x C sp) (hr : Room j X.A) (hk : k + 1 ≤ j) (hg : Gl X x) (ha : PA X (e :: es) ta) (form : Flat X x e es pos := by exact ⟨by decide, rfl, rfl⟩) : PMk X (.Call (.Name x p) (e :: es) [] pos) (tMkO C sp [] ta) := by
  intro pins s σ H Q I h
  obtain ⟨init, fd, ps, T, at_, F0, hm, bnd⟩ := c.ex
  have F := F0.raw bnd .nil
  refine wpAny_Call_Name_kw (ld_glob I hg hm (PySem.W.callWith_K (h₀ := X.base) I.ok.mod.kin T.keep (thn (ha.run pos pins s σ H _ I h) ?_) form.first form.plain) form.dbg)
  rintro us ⟨hp, g, d, t, os⟩ ⟨vs, H1, I1, rel, few, q⟩
  refine ⟨I1.kIn, ?_⟩
  obtain ⟨_, _, _, _, _, _, _, _, _, _, _, _, _, _, _, _, cls, line⟩ := PySem.W.excInit_of I1.kIn T.makes
  -- the args' tuple and the exception lie behind one another
  have next : hp.objs.size ≤ hp.objs.size + 1 := Nat.le_succ _
  have kept : ∀ c o, hp.get? c = some o → ((hp.push (PySem.W.kdv_tup us)).push (PySem.HandSPX.excO C hp.objs.size)).get? c = some o := fun c o z => Heap.get?_push_of_some _ (Heap.get?_push_of_some _ z)
  have I2 := I1.laid (h' := (hp.push (PySem.W.kdv_tup us)).push (PySem.HandSPX.excO C hp.objs.size)) (t' := t) (o := exo (hp.objs.size + 1) C none) kept next (exo_ok (t1 := hp.objs.size) (by heap_get))
  have fits : us.length ≤ sizeLine := Nat.le_trans (Nat.le_of_eq (Paired.length rel).symm) (by rw [sizeLine_eq]; omega)
  have ran := F _ X.stack _ _ (.ref (hp.objs.size + 1) :: us) (.ref (hp.objs.size + 1) :: vs) _ E0 ((hr.mono hk).make C us []) (I2.env0.make C us []) (.cons rfl rel) (q _ (I1.hok.fresh next))
  refine wpAny_call (PySem.HandSPX.call_own T.ok.fac line cls (PySem.W.looks_findIn I1.kIn at_.find) (fun self => PySem.W.bind_fn I1.kIn self at_.fn) fits (codeAny_mono ran ?_))
  rintro (_ | (_ | _ | _ | _)) ⟨h2, g2, d2, t2, os2⟩ z <;> first
    | exact False.elim z
    | (obtain ⟨_, H2, os', bare, un, hok, rv, rfl, dd, fs, ea, ed, new, q2⟩ := z
       exact ⟨rv, mk_end (raises_own T.exc T.typ) I1 next kept un hok os' bare ea ed new q2⟩)
end
end Tw

set_option maxHeartbeats 4000000
/-! a head that looks only at the globals that are wanted, and what hangs on them; of some at nothing but themselves -/
namespace Tw
open PySem PySem.Spec PyProof.Rows L2
/-- one step further, but never back into the globals -/
def growZ (g : Addr → Option Obj) (as : List Addr) : List Addr := (as ++ as.flatMap fun a => match g a with
  | some o => (He.refsD o).filter fun b => !(b == mainGlobals)
  | none => []).eraseDups
def asZ (g : Addr → Option Obj) (want : List Str × List Str) : Nat → List Addr
  | 0 => want.1.map (He.ga (He.frT g [mainGlobals]))
  | n + 1 => growZ g (asZ g want n)
def frZ (g : Addr → Option Obj) (want : List Str × List Str) (n : Nat) : PySem.W.Frag := He.frT g (mainGlobals :: (asZ g want n ++ (want.2.map (He.ga (He.frT g [mainGlobals])) ++ [cStatics])))
def obsZ (n : Nat) (want : List Str × List Str) (fa : List He.Fa) (fn : List He.DefD) (tf : List He.Defn) (ex : PySem.W.Frag → Bool) (g : Addr → Option Obj) : AlY := (He.obsD fa fn (frZ g want n), ex (frZ g want n) && He.tabsB g tf (frZ g want n))
theorem saysZ_of {n : Nat} {want : List Str × List Str} {fa : List He.Fa} {fn : List He.DefD} {tf : List He.Defn} {ex : PySem.W.Frag → Bool} {h : Heap} (e : obsZ n want fa fn tf ex h.get? = (He.valD fn, true)) : SaysY fa fn tf ex h (frZ h.get? want n) := by
  have e1 := congrArg (fun z : AlY => z.1) e
  obtain ⟨m1, m2⟩ := Bool.and_eq_true_iff.mp (congrArg (fun z : AlY => z.2) e)
  have at_ : ∀ p ∈ tf, PySem.W.codeHdIn (frZ h.get? want n) (He.cT (frZ h.get? want n) p).1 (He.cT (frZ h.get? want n) p).2 = true ∧ ∃ o, h.get? (He.cT (frZ h.get? want n) p).2 = some o ∧ He.emptyTab o = true := by
    intro p hp
    obtain ⟨c1, c2⟩ := Bool.and_eq_true_iff.mp (List.all_eq_true.mp m2 p hp)
    revert c2
    cases h.get? (He.cT (frZ h.get? want n) p).2 with
    | none => exact fun z => nomatch z
    | some o => exact fun z => ⟨c1, o, rfl, z⟩
  refine ⟨e1, m1, fun p hp => (at_ p hp).1, fun p hp => ?_, fun p hp => ?_⟩
  · obtain ⟨_, o, q, z⟩ := at_ p hp
    exact He.frT_none q z
  · obtain ⟨_, o, q, z⟩ := at_ p hp
    rw [q, He.emptyTab_eq z]
def hookZ (n : Nat) (want : List Str × List Str) (fa : List He.Fa) (fn : List He.DefD) (tf : List He.Defn) (ex : PySem.W.Frag → Bool) : PySem.W.Hook where
  α := AlY
  obs := fun s => obsZ n want fa fn tf ex s.heap.get?
  val := fun _ => (He.valD fn, true)
  says := fun _ h => ∃ K : PySem.W.Frag, K.In h ∧ SaysY fa fn tf ex h K
  of := fun _ _ e => ⟨_, He.frT_in, saysZ_of e⟩
  keeps := fun _ _ _ ⟨K, hK, c⟩ k => ⟨K, hK.keeps k, c.d, c.more, c.code, c.out, fun p hp => k _ _ (c.empty p hp)⟩
theorem obsZ_eq {n : Nat} {want : List Str × List Str} {fa : List He.Fa} {fn : List He.DefD} {tf : List He.Defn} {ex : PySem.W.Frag → Bool} {g : Addr → Option Obj} {s : Shared} (h : ∀ a, g a = s.heap.get? a) : obsZ n want fa fn tf ex g = (hookZ n want fa fn tf ex).obs s := by
  rw [show g = s.heap.get? from funext h]
  rfl
/-! .. with dicts of the top whose keys are texts -/
structure SaysW (fa : List He.Fa) (fn : List He.DefD) (tf : List He.Defn) (ex : PySem.W.Frag → Bool) (tb : List He.Tab) (w : World) (h : Heap) (K : PySem.W.Frag) : Prop where
  y : SaysY fa fn tf ex h K
  tab : ∀ t ∈ tb, ∃ es n, KDict K w (t.1 K) es n
abbrev AlW : Type := AlY × List (Option (List (Option (Str × Int))))
def obsW (n : Nat) (want : List Str × List Str) (fa : List He.Fa) (fn : List He.DefD) (tf : List He.Defn) (ex : PySem.W.Frag → Bool) (tb : List He.Tab) (g : Addr → Option Obj) : AlW := (obsZ n want fa fn tf ex g, tb.map fun t => He.dicW (frZ g want n) (t.1 (frZ g want n)))
def valW (fn : List He.DefD) (tb : List He.Tab) (w : World) : AlW := ((He.valD fn, true), tb.map fun t => some (He.keysIn w.params t.2))
theorem saysW_of {n : Nat} {want : List Str × List Str} {fa : List He.Fa} {fn : List He.DefD} {tf : List He.Defn} {ex : PySem.W.Frag → Bool} {tb : List He.Tab} {w : World} {h : Heap} (e : obsW n want fa fn tf ex tb h.get? = valW fn tb w) : SaysW fa fn tf ex tb w h (frZ h.get? want n) := by
  refine ⟨saysZ_of (congrArg Prod.fst e), fun t ht => He.dicW_ok (ks := t.2) ?_⟩
  have e2 : (tb.map fun t => He.dicW (frZ h.get? want n) (t.1 (frZ h.get? want n))) = tb.map fun t => some (He.keysIn w.params t.2) := congrArg Prod.snd e
  exact List.map_inj_left.mp e2 t ht
def hookW (n : Nat) (want : List Str × List Str) (fa : List He.Fa) (fn : List He.DefD) (tf : List He.Defn) (ex : PySem.W.Frag → Bool) (tb : List He.Tab) : PySem.W.Hook where
  α := AlW
  obs := fun s => obsW n want fa fn tf ex tb s.heap.get?
  val := fun w => valW fn tb w
  says := fun w h => ∃ K : PySem.W.Frag, K.In h ∧ SaysW fa fn tf ex tb w h K
  of := fun _ _ e => ⟨_, He.frT_in, saysW_of e⟩
  keeps := fun _ _ _ ⟨K, hK, c⟩ k => ⟨K, hK.keeps k, ⟨c.y.d, c.y.more, c.y.code, c.y.out, fun p hp => k _ _ (c.y.empty p hp)⟩, c.tab⟩
theorem obsW_eq {n : Nat} {want : List Str × List Str} {fa : List He.Fa} {fn : List He.DefD} {tf : List He.Defn} {ex : PySem.W.Frag → Bool} {tb : List He.Tab} {g : Addr → Option Obj} {s : Shared} (h : ∀ a, g a = s.heap.get? a) : obsW n want fa fn tf ex tb g = (hookW n want fa fn tf ex tb).obs s := by
  rw [show g = s.heap.get? from funext h]
  rfl
/-- three looks at one end, taken one by one -/
theorem three_of {α β γ δ : Type} {o : Option α} {f : α → β} {g : α → γ} {h : α → δ} {x : β} {y : γ} {z : δ} (e1 : o.map (fun s => (f s, g s)) = some (x, y)) (e2 : o.map h = some z) : o.map (fun s => (f s, g s, h s)) = some (x, y, z) := by
  cases o with
  | none => cases e1
  | some s =>
    have h1 := Option.some.inj e1
    have h2 : h s = z := Option.some.inj e2
    show some (f s, g s, h s) = some (x, y, z)
    rw [h2, show f s = x from congrArg Prod.fst h1, show g s = y from congrArg Prod.snd h1]
end Tw

set_option maxHeartbeats 4000000
namespace Tw
open PySem PySem.Spec PyProof.Rows L2

def top (i : Nat) : Stmt := PySem.Challenge.pw_tidewaiter_k15_made_rows_refused.main.body.getD i (.Pass ⟨0, 0, 0, 0⟩)
abbrev s_is_number : Stmt := top 4
abbrev s_is_whole : Stmt := top 5
abbrev s_is_one_of : Stmt := top 6
abbrev s_is_name : Stmt := top 7
abbrev s_TideError_UinitU : Stmt := inClass (top 9) 0
abbrev s_BadPaper_UinitU : Stmt := inClass (top 18) 0
abbrev s_Web_UinitU : Stmt := inClass (top 49) 0
abbrev s_Web_with_moment : Stmt := inClass (top 49) 2
abbrev s_Web_with_span : Stmt := inClass (top 49) 3
abbrev s_Web_with_tie : Stmt := inClass (top 49) 4
abbrev s_Web_moments : Stmt := inClass (top 49) 7
abbrev s_Web_spans : Stmt := inClass (top 49) 8
abbrev s_Web_ties : Stmt := inClass (top 49) 9
abbrev s_Web_points : Stmt := inClass (top 49) 10
abbrev s_Web_UlenU : Stmt := inClass (top 49) 12
abbrev s_Web_UreprU : Stmt := inClass (top 49) 13
abbrev s_woven : Stmt := top 50
abbrev s_is_begin : Stmt := top 51
abbrev s_are_lengths : Stmt := top 52
abbrev s_is_lateness : Stmt := top 53
abbrev s_are_bounds : Stmt := top 54
abbrev s_need_free_name : Stmt := top 55
abbrev s_need_point : Stmt := top 56
abbrev s_offset : Stmt := top 58
abbrev s_bounds : Stmt := top 59
abbrev s_tie_bounds : Stmt := top 60
abbrev s_heard_spans : Stmt := top 61
abbrev s_heard_begins : Stmt := top 65
abbrev s_late_waits : Stmt := top 66
abbrev s_along : Stmt := top 67
abbrev s_wait : Stmt := top 68
abbrev s_sure : Stmt := top 69
abbrev s_soon : Stmt := top 70
abbrev s_ahead : Stmt := top 71
abbrev s_meaning : Stmt := top 75
abbrev s_told_fact : Stmt := top 76
abbrev s_late_fact : Stmt := top 77
abbrev s_made_fact : Stmt := top 78
abbrev s_paper_fits : Stmt := top 79
abbrev s__law_flow : Stmt := top 83
abbrev s__law_draw : Stmt := top 84
abbrev s__law_pick : Stmt := top 85
abbrev s__law_same : Stmt := top 86
abbrev s__law_names : Stmt := top 87
abbrev s__law_model : Stmt := top 88
abbrev s__law_points : Stmt := top 89
abbrev s__law_web : Stmt := top 90
abbrev s__law_wind : Stmt := top 91
abbrev s__law_bond : Stmt := top 92
abbrev s__law_drawn : Stmt := top 93
abbrev s__law_stands : Stmt := top 94
abbrev s__law_whole : Stmt := top 95
abbrev s__law_field : Stmt := top 96
abbrev s__law_heard : Stmt := top 97
abbrev s__law_offset : Stmt := top 98
abbrev s__law_bounds : Stmt := top 99
abbrev s__law_read_pair : Stmt := top 100
abbrev s__law_read_one : Stmt := top 101
abbrev s__law_read_row : Stmt := top 102
abbrev s__law_read_rows : Stmt := top 103
abbrev s__law_new_row : Stmt := top 104
abbrev s__law_some_rows : Stmt := top 105
abbrev s__law_bent_row : Stmt := top 106
abbrev s_law : Stmt := top 107
abbrev N_is_number : List Str := ["thing"]
theorem sc_is_number : FnScope N_is_number ["thing"] (defScope s_is_number) := ⟨rfl, rfl, rfl, by decide +kernel, rfl, by decide +kernel, by decide +kernel⟩
abbrev N_is_whole : List Str := ["thing", "least", "most"]
theorem sc_is_whole : FnScope N_is_whole ["thing", "least", "most"] (defScope s_is_whole) := ⟨rfl, rfl, rfl, by decide +kernel, rfl, by decide +kernel, by decide +kernel⟩
abbrev N_is_one_of : List Str := ["thing", "names"]
theorem sc_is_one_of : FnScope N_is_one_of ["thing", "names"] (defScope s_is_one_of) := ⟨rfl, rfl, rfl, by decide +kernel, rfl, by decide +kernel, by decide +kernel⟩
abbrev N_is_name : List Str := ["thing", "letter"]
theorem sc_is_name : FnScope N_is_name ["thing"] (defScope s_is_name) := ⟨rfl, rfl, rfl, by decide +kernel, rfl, by decide +kernel, by decide +kernel⟩
abbrev N_TideError_UinitU : List Str := ["self", "word", "why"]
theorem sc_TideError_UinitU : FnScope N_TideError_UinitU ["self", "word", "why"] (defScope s_TideError_UinitU) := ⟨rfl, rfl, rfl, by decide +kernel, rfl, by decide +kernel, by decide +kernel⟩
abbrev N_BadPaper_UinitU : List Str := ["self", "row"]
theorem sc_BadPaper_UinitU : FnScope N_BadPaper_UinitU ["self", "row"] (defScope s_BadPaper_UinitU) := ⟨rfl, rfl, rfl, by decide +kernel, rfl, by decide +kernel, by decide +kernel⟩
abbrev N_Web_UinitU : List Str := ["self", "by"]
theorem sc_Web_UinitU : FnScope N_Web_UinitU ["self", "by"] (defScope s_Web_UinitU) := ⟨rfl, rfl, rfl, by decide +kernel, rfl, by decide +kernel, by decide +kernel⟩
abbrev N_Web_with_moment : List Str := ["self", "name"]
theorem sc_Web_with_moment : FnScope N_Web_with_moment ["self", "name"] (defScope s_Web_with_moment) := ⟨rfl, rfl, rfl, by decide +kernel, rfl, by decide +kernel, by decide +kernel⟩
abbrev N_Web_with_span : List Str := ["self", "end", "begin", "low", "high", "late", "span"]
theorem sc_Web_with_span : FnScope N_Web_with_span ["self", "end", "begin", "low", "high", "late"] (defScope s_Web_with_span) := ⟨rfl, rfl, rfl, by decide +kernel, rfl, by decide +kernel, by decide +kernel⟩
abbrev N_Web_with_tie : List Str := ["self", "one", "other", "least", "most", "tie"]
theorem sc_Web_with_tie : FnScope N_Web_with_tie ["self", "one", "other", "least", "most"] (defScope s_Web_with_tie) := ⟨rfl, rfl, rfl, by decide +kernel, rfl, by decide +kernel, by decide +kernel⟩
abbrev N_Web_moments : List Str := ["self"]
theorem sc_Web_moments : FnScope N_Web_moments ["self"] (defScope s_Web_moments) := ⟨rfl, rfl, rfl, by decide +kernel, rfl, by decide +kernel, by decide +kernel⟩
abbrev N_Web_spans : List Str := ["self"]
theorem sc_Web_spans : FnScope N_Web_spans ["self"] (defScope s_Web_spans) := ⟨rfl, rfl, rfl, by decide +kernel, rfl, by decide +kernel, by decide +kernel⟩
abbrev N_Web_ties : List Str := ["self"]
theorem sc_Web_ties : FnScope N_Web_ties ["self"] (defScope s_Web_ties) := ⟨rfl, rfl, rfl, by decide +kernel, rfl, by decide +kernel, by decide +kernel⟩
abbrev N_Web_points : List Str := ["self", "ends", "span"]
theorem sc_Web_points : FnScope N_Web_points ["self"] (defScope s_Web_points) := ⟨rfl, rfl, rfl, by decide +kernel, rfl, by decide +kernel, by decide +kernel⟩
abbrev N_Web_UlenU : List Str := ["self"]
theorem sc_Web_UlenU : FnScope N_Web_UlenU ["self"] (defScope s_Web_UlenU) := ⟨rfl, rfl, rfl, by decide +kernel, rfl, by decide +kernel, by decide +kernel⟩
abbrev N_Web_UreprU : List Str := ["self"]
theorem sc_Web_UreprU : FnScope N_Web_UreprU ["self"] (defScope s_Web_UreprU) := ⟨rfl, rfl, rfl, by decide +kernel, rfl, by decide +kernel, by decide +kernel⟩
abbrev N_woven : List Str := ["by", "moments", "spans", "ties", "web"]
theorem sc_woven : FnScope N_woven ["by", "moments", "spans", "ties"] (defScope s_woven) := ⟨rfl, rfl, rfl, by decide +kernel, rfl, by decide +kernel, by decide +kernel⟩
abbrev N_is_begin : List Str := ["web", "name"]
theorem sc_is_begin : FnScope N_is_begin ["web", "name"] (defScope s_is_begin) := ⟨rfl, rfl, rfl, by decide +kernel, rfl, by decide +kernel, by decide +kernel⟩
abbrev N_are_lengths : List Str := ["low", "high"]
theorem sc_are_lengths : FnScope N_are_lengths ["low", "high"] (defScope s_are_lengths) := ⟨rfl, rfl, rfl, by decide +kernel, rfl, by decide +kernel, by decide +kernel⟩
abbrev N_is_lateness : List Str := ["late"]
theorem sc_is_lateness : FnScope N_is_lateness ["late"] (defScope s_is_lateness) := ⟨rfl, rfl, rfl, by decide +kernel, rfl, by decide +kernel, by decide +kernel⟩
abbrev N_are_bounds : List Str := ["least", "most", "told", "bound"]
theorem sc_are_bounds : FnScope N_are_bounds ["least", "most"] (defScope s_are_bounds) := ⟨rfl, rfl, rfl, by decide +kernel, rfl, by decide +kernel, by decide +kernel⟩
abbrev N_need_free_name : List Str := ["web", "name"]
theorem sc_need_free_name : FnScope N_need_free_name ["web", "name"] (defScope s_need_free_name) := ⟨rfl, rfl, rfl, by decide +kernel, rfl, by decide +kernel, by decide +kernel⟩
abbrev N_need_point : List Str := ["web", "name"]
theorem sc_need_point : FnScope N_need_point ["web", "name"] (defScope s_need_point) := ⟨rfl, rfl, rfl, by decide +kernel, rfl, by decide +kernel, by decide +kernel⟩
abbrev N_offset : List Str := ["web", "name", "end", "begin", "low", "high", "late"]
theorem sc_offset : FnScope N_offset ["web", "name"] (defScope s_offset) := ⟨rfl, rfl, rfl, by decide +kernel, rfl, by decide +kernel, by decide +kernel⟩
abbrev N_bounds : List Str := ["web", "found", "moment", "end", "begin", "first", "last", "tie"]
theorem sc_bounds : FnScope N_bounds ["web"] (defScope s_bounds) := ⟨rfl, rfl, rfl, by decide +kernel, rfl, by decide +kernel, by decide +kernel⟩
abbrev N_tie_bounds : List Str := ["web", "tie", "one", "other", "least", "most", "one_base", "one_least", "one_most", "other_base", "other_least", "other_most", "found"]
theorem sc_tie_bounds : FnScope N_tie_bounds ["web", "tie"] (defScope s_tie_bounds) := ⟨rfl, rfl, rfl, by decide +kernel, rfl, by decide +kernel, by decide +kernel⟩
abbrev N_heard_spans : List Str := ["web", "end", "begin", "low", "high", "late"]
theorem sc_heard_spans : FnScope N_heard_spans ["web"] (defScope s_heard_spans) := ⟨rfl, rfl, rfl, by decide +kernel, rfl, by decide +kernel, by decide +kernel⟩
abbrev N_heard_begins : List Str := ["web", "end", "begin", "first", "last"]
theorem sc_heard_begins : FnScope N_heard_begins ["web"] (defScope s_heard_begins) := ⟨rfl, rfl, rfl, by decide +kernel, rfl, by decide +kernel, by decide +kernel⟩
abbrev N_late_waits : List Str := ["web", "end", "begin", "first", "last"]
theorem sc_late_waits : FnScope N_late_waits ["web"] (defScope s_late_waits) := ⟨rfl, rfl, rfl, by decide +kernel, rfl, by decide +kernel, by decide +kernel⟩
abbrev N_along : List Str := ["one", "other"]
theorem sc_along : FnScope N_along ["one", "other"] (defScope s_along) := ⟨rfl, rfl, rfl, by decide +kernel, rfl, by decide +kernel, by decide +kernel⟩
abbrev N_wait : List Str := ["one", "other"]
theorem sc_wait : FnScope N_wait ["one", "other"] (defScope s_wait) := ⟨rfl, rfl, rfl, by decide +kernel, rfl, by decide +kernel, by decide +kernel⟩
abbrev N_sure : List Str := ["heard", "one", "begin", "first"]
theorem sc_sure : FnScope N_sure ["heard", "one"] (defScope s_sure) := ⟨rfl, rfl, rfl, by decide +kernel, rfl, by decide +kernel, by decide +kernel⟩
abbrev N_soon : List Str := ["heard", "one", "begin", "first"]
theorem sc_soon : FnScope N_soon ["heard", "one"] (defScope s_soon) := ⟨rfl, rfl, rfl, by decide +kernel, rfl, by decide +kernel, by decide +kernel⟩
abbrev N_ahead : List Str := ["heard", "one", "begin", "first"]
theorem sc_ahead : FnScope N_ahead ["heard", "one"] (defScope s_ahead) := ⟨rfl, rfl, rfl, by decide +kernel, rfl, by decide +kernel, by decide +kernel⟩
abbrev N_meaning : List Str := ["web", "rows", "told", "lates", "heard", "facts", "at", "row", "fact"]
theorem sc_meaning : FnScope N_meaning ["web", "rows"] (defScope s_meaning) := ⟨rfl, rfl, rfl, by decide +kernel, rfl, by decide +kernel, by decide +kernel⟩
abbrev N_told_fact : List Str := ["told", "row", "name"]
theorem sc_told_fact : FnScope N_told_fact ["told", "row"] (defScope s_told_fact) := ⟨rfl, rfl, rfl, by decide +kernel, rfl, by decide +kernel, by decide +kernel⟩
abbrev N_late_fact : List Str := ["lates", "row"]
theorem sc_late_fact : FnScope N_late_fact ["lates", "row"] (defScope s_late_fact) := ⟨rfl, rfl, rfl, by decide +kernel, rfl, by decide +kernel, by decide +kernel⟩
abbrev N_made_fact : List Str := ["heard", "facts", "row", "word", "sources", "pair_rule", "single_rule", "place"]
theorem sc_made_fact : FnScope N_made_fact ["heard", "facts", "row"] (defScope s_made_fact) := ⟨rfl, rfl, rfl, by decide +kernel, rfl, by decide +kernel, by decide +kernel⟩
abbrev N_paper_fits : List Str := ["web", "paper", "facts"]
theorem sc_paper_fits : FnScope N_paper_fits ["web", "paper"] (defScope s_paper_fits) := ⟨rfl, rfl, rfl, by decide +kernel, rfl, by decide +kernel, by decide +kernel⟩
abbrev N__law_flow : List Str := ["_law_script"]
theorem sc__law_flow : FnScope N__law_flow ["_law_script"] (defScope s__law_flow) := ⟨rfl, rfl, rfl, by decide +kernel, rfl, by decide +kernel, by decide +kernel⟩
abbrev N__law_draw : List Str := ["_law_flow_here", "_law_size", "_law_found", "_law_cell", "_law_here"]
theorem sc__law_draw : FnScope N__law_draw ["_law_flow_here", "_law_size"] (defScope s__law_draw) := ⟨rfl, rfl, rfl, by decide +kernel, rfl, by decide +kernel, by decide +kernel⟩
abbrev N__law_pick : List Str := ["_law_flow_here", "_law_row"]
theorem sc__law_pick : FnScope N__law_pick ["_law_flow_here", "_law_row"] (defScope s__law_pick) := ⟨rfl, rfl, rfl, by decide +kernel, rfl, by decide +kernel, by decide +kernel⟩
abbrev N__law_same : List Str := ["_law_found", "_law_due", "_law_key", "_law_k"]
theorem sc__law_same : FnScope N__law_same ["_law_found", "_law_due"] (defScope s__law_same) := ⟨rfl, rfl, rfl, by decide +kernel, rfl, by decide +kernel, by decide +kernel⟩
abbrev N__law_names : List Str := ["_law_flow_here", "_law_many", "_law_pool", "_law_found", "_law_k"]
theorem sc__law_names : FnScope N__law_names ["_law_flow_here", "_law_many"] (defScope s__law_names) := ⟨rfl, rfl, rfl, by decide +kernel, rfl, by decide +kernel, by decide +kernel⟩
abbrev N__law_model : List Str := ["_law_last"]
theorem sc__law_model : FnScope N__law_model ["_law_last"] (defScope s__law_model) := ⟨rfl, rfl, rfl, by decide +kernel, rfl, by decide +kernel, by decide +kernel⟩
abbrev N__law_points : List Str := ["_law_m", "_law_wind_here"]
theorem sc__law_points : FnScope N__law_points ["_law_m"] (defScope s__law_points) := ⟨rfl, rfl, rfl, by decide +kernel, rfl, by decide +kernel, by decide +kernel⟩
abbrev N__law_web : List Str := ["_law_m", "_law_web_here", "_law_name", "_law_end", "_law_begin", "_law_low", "_law_high", "_law_hush", "_law_one", "_law_other", "_law_bot", "_law_top"]
theorem sc__law_web : FnScope N__law_web ["_law_m"] (defScope s__law_web) := ⟨rfl, rfl, rfl, by decide +kernel, rfl, by decide +kernel, by decide +kernel⟩
abbrev N__law_wind : List Str := ["_law_flow_here", "_law_end", "_law_own", "_law_far", "_law_low", "_law_high", "_law_hush"]
theorem sc__law_wind : FnScope N__law_wind ["_law_flow_here", "_law_end", "_law_own", "_law_far"] (defScope s__law_wind) := ⟨rfl, rfl, rfl, by decide +kernel, rfl, by decide +kernel, by decide +kernel⟩
abbrev N__law_bond : List Str := ["_law_flow_here", "_law_points_here", "_law_far", "_law_rest", "_law_one", "_law_other", "_law_low", "_law_high", "_law_kind"]
theorem sc__law_bond : FnScope N__law_bond ["_law_flow_here", "_law_points_here", "_law_far"] (defScope s__law_bond) := ⟨rfl, rfl, rfl, by decide +kernel, rfl, by decide +kernel, by decide +kernel⟩
abbrev N__law_drawn : List Str := ["_law_flow_here", "_law_own", "_law_winds", "_law_bonds", "_law_far", "_law_last", "_law_m", "_law_names_here", "_law_end", "_law_k"]
theorem sc__law_drawn : FnScope N__law_drawn ["_law_flow_here", "_law_own", "_law_winds", "_law_bonds", "_law_far", "_law_last"] (defScope s__law_drawn) := ⟨rfl, rfl, rfl, by decide +kernel, rfl, by decide +kernel, by decide +kernel⟩
abbrev N__law_stands : List Str := ["_law_web_here", "_law_m", "_law_points_here", "_law_found", "_law_text"]
theorem sc__law_stands : FnScope N__law_stands ["_law_web_here", "_law_m"] (defScope s__law_stands) := ⟨rfl, rfl, rfl, by decide +kernel, rfl, by decide +kernel, by decide +kernel⟩
abbrev N__law_whole : List Str := ["_law_thing", "_law_low", "_law_high"]
theorem sc__law_whole : FnScope N__law_whole ["_law_thing", "_law_low", "_law_high"] (defScope s__law_whole) := ⟨rfl, rfl, rfl, by decide +kernel, rfl, by decide +kernel, by decide +kernel⟩
abbrev N__law_field : List Str := ["_law_ask", "_law_found", "e"]
theorem sc__law_field : FnScope N__law_field ["_law_ask"] (defScope s__law_field) := ⟨rfl, rfl, rfl, by decide +kernel, rfl, by decide +kernel, by decide +kernel⟩
abbrev N__law_heard : List Str := ["_law_m", "_law_found", "_law_end", "_law_begin", "_law_low", "_law_high", "_law_hush"]
theorem sc__law_heard : FnScope N__law_heard ["_law_m"] (defScope s__law_heard) := ⟨rfl, rfl, rfl, by decide +kernel, rfl, by decide +kernel, by decide +kernel⟩
abbrev N__law_offset : List Str := ["_law_m", "_law_name", "_law_end", "_law_begin", "_law_low", "_law_high", "_law_hush"]
theorem sc__law_offset : FnScope N__law_offset ["_law_m", "_law_name"] (defScope s__law_offset) := ⟨rfl, rfl, rfl, by decide +kernel, rfl, by decide +kernel, by decide +kernel⟩
abbrev N__law_bounds : List Str := ["_law_m", "_law_found", "_law_name", "_law_end", "_law_begin", "_law_low", "_law_high", "_law_one", "_law_other", "_law_bot", "_law_top", "_law_base", "_law_goal", "_law_under", "_law_over"]
theorem sc__law_bounds : FnScope N__law_bounds ["_law_m"] (defScope s__law_bounds) := ⟨rfl, rfl, rfl, by decide +kernel, rfl, by decide +kernel, by decide +kernel⟩
abbrev N__law_read_pair : List Str := ["_law_m", "_law_word", "_law_one", "_law_two"]
theorem sc__law_read_pair : FnScope N__law_read_pair ["_law_m", "_law_word", "_law_one", "_law_two"] (defScope s__law_read_pair) := ⟨rfl, rfl, rfl, by decide +kernel, rfl, by decide +kernel, by decide +kernel⟩
abbrev N__law_read_one : List Str := ["_law_m", "_law_word", "_law_one", "_law_winds", "_law_end", "_law_begin", "_law_low", "_law_high"]
theorem sc__law_read_one : FnScope N__law_read_one ["_law_m", "_law_word", "_law_one"] (defScope s__law_read_one) := ⟨rfl, rfl, rfl, by decide +kernel, rfl, by decide +kernel, by decide +kernel⟩
abbrev N__law_read_row : List Str := ["_law_m", "_law_made", "_law_row", "_law_sizes", "_law_good", "_law_some", "_law_at", "_law_wind_here"]
theorem sc__law_read_row : FnScope N__law_read_row ["_law_m", "_law_made", "_law_row"] (defScope s__law_read_row) := ⟨rfl, rfl, rfl, by decide +kernel, rfl, by decide +kernel, by decide +kernel⟩
abbrev N__law_read_rows : List Str := ["_law_m", "_law_rows", "_law_made", "_law_row", "_law_one"]
theorem sc__law_read_rows : FnScope N__law_read_rows ["_law_m", "_law_rows"] (defScope s__law_read_rows) := ⟨rfl, rfl, rfl, by decide +kernel, rfl, by decide +kernel, by decide +kernel⟩
abbrev N__law_new_row : List Str := ["_law_flow_here", "_law_m", "_law_made", "_law_word", "_law_tried", "_law_one", "_law_good", "_law_other", "_law_wind_here", "_law_row"]
theorem sc__law_new_row : FnScope N__law_new_row ["_law_flow_here", "_law_m", "_law_made"] (defScope s__law_new_row) := ⟨rfl, rfl, rfl, by decide +kernel, rfl, by decide +kernel, by decide +kernel⟩
abbrev N__law_some_rows : List Str := ["_law_flow_here", "_law_m", "_law_many", "_law_rows", "_law_made", "_law_k", "_law_row"]
theorem sc__law_some_rows : FnScope N__law_some_rows ["_law_flow_here", "_law_m", "_law_many"] (defScope s__law_some_rows) := ⟨rfl, rfl, rfl, by decide +kernel, rfl, by decide +kernel, by decide +kernel⟩
abbrev N__law_bent_row : List Str := ["_law_flow_here", "_law_row", "_law_kind", "_law_at"]
theorem sc__law_bent_row : FnScope N__law_bent_row ["_law_flow_here", "_law_row"] (defScope s__law_bent_row) := ⟨rfl, rfl, rfl, by decide +kernel, rfl, by decide +kernel, by decide +kernel⟩
abbrev N_law : List Str := ["_law_script", "_law_flow_here", "_law_own", "_law_winds", "_law_bonds", "_law_m", "_law_web_here", "_law_rows", "_law_made", "_law_turn", "_law_handed", "_law_k", "_law_at", "_law_found"]
theorem sc_law : FnScope N_law ["_law_script"] (defScope s_law) := ⟨rfl, rfl, rfl, by decide +kernel, rfl, by decide +kernel, by decide +kernel⟩
def d_is_number : He.DefD := ⟨("is_number", none), "is_number", "is_number", defArgs s_is_number, defBody s_is_number, defScope s_is_number, [], []⟩
def d_is_whole : He.DefD := ⟨("is_whole", none), "is_whole", "is_whole", defArgs s_is_whole, defBody s_is_whole, defScope s_is_whole, [], []⟩
def d_is_one_of : He.DefD := ⟨("is_one_of", none), "is_one_of", "is_one_of", defArgs s_is_one_of, defBody s_is_one_of, defScope s_is_one_of, [], []⟩
def d_is_name : He.DefD := ⟨("is_name", none), "is_name", "is_name", defArgs s_is_name, defBody s_is_name, defScope s_is_name, [], []⟩
def d_TideError_UinitU : He.DefD := ⟨("TideError", some "__init__"), "__init__", "TideError.__init__", defArgs s_TideError_UinitU, defBody s_TideError_UinitU, defScope s_TideError_UinitU, [.str "TideError", .str "refused"], []⟩
def d_BadPaper_UinitU : He.DefD := ⟨("BadPaper", some "__init__"), "__init__", "BadPaper.__init__", defArgs s_BadPaper_UinitU, defBody s_BadPaper_UinitU, defScope s_BadPaper_UinitU, [], []⟩
def d_Web_UinitU : He.DefD := ⟨("Web", some "__init__"), "__init__", "Web.__init__", defArgs s_Web_UinitU, defBody s_Web_UinitU, defScope s_Web_UinitU, [.int 100], []⟩
def d_Web_with_moment : He.DefD := ⟨("Web", some "with_moment"), "with_moment", "Web.with_moment", defArgs s_Web_with_moment, defBody s_Web_with_moment, defScope s_Web_with_moment, [], []⟩
def d_Web_with_span : He.DefD := ⟨("Web", some "with_span"), "with_span", "Web.with_span", defArgs s_Web_with_span, defBody s_Web_with_span, defScope s_Web_with_span, [], [("late", .int 0)]⟩
def d_Web_with_tie : He.DefD := ⟨("Web", some "with_tie"), "with_tie", "Web.with_tie", defArgs s_Web_with_tie, defBody s_Web_with_tie, defScope s_Web_with_tie, [], [("least", .non), ("most", .non)]⟩
def d_Web_moments : He.DefD := ⟨("Web", some "moments"), "moments", "Web.moments", defArgs s_Web_moments, defBody s_Web_moments, defScope s_Web_moments, [], []⟩
def d_Web_spans : He.DefD := ⟨("Web", some "spans"), "spans", "Web.spans", defArgs s_Web_spans, defBody s_Web_spans, defScope s_Web_spans, [], []⟩
def d_Web_ties : He.DefD := ⟨("Web", some "ties"), "ties", "Web.ties", defArgs s_Web_ties, defBody s_Web_ties, defScope s_Web_ties, [], []⟩
def d_Web_points : He.DefD := ⟨("Web", some "points"), "points", "Web.points", defArgs s_Web_points, defBody s_Web_points, defScope s_Web_points, [], []⟩
def d_Web_UlenU : He.DefD := ⟨("Web", some "__len__"), "__len__", "Web.__len__", defArgs s_Web_UlenU, defBody s_Web_UlenU, defScope s_Web_UlenU, [], []⟩
def d_Web_UreprU : He.DefD := ⟨("Web", some "__repr__"), "__repr__", "Web.__repr__", defArgs s_Web_UreprU, defBody s_Web_UreprU, defScope s_Web_UreprU, [], []⟩
def d_woven : He.DefD := ⟨("woven", none), "woven", "woven", defArgs s_woven, defBody s_woven, defScope s_woven, [], []⟩
def d_is_begin : He.DefD := ⟨("is_begin", none), "is_begin", "is_begin", defArgs s_is_begin, defBody s_is_begin, defScope s_is_begin, [], []⟩
def d_are_lengths : He.DefD := ⟨("are_lengths", none), "are_lengths", "are_lengths", defArgs s_are_lengths, defBody s_are_lengths, defScope s_are_lengths, [], []⟩
def d_is_lateness : He.DefD := ⟨("is_lateness", none), "is_lateness", "is_lateness", defArgs s_is_lateness, defBody s_is_lateness, defScope s_is_lateness, [], []⟩
def d_are_bounds : He.DefD := ⟨("are_bounds", none), "are_bounds", "are_bounds", defArgs s_are_bounds, defBody s_are_bounds, defScope s_are_bounds, [], []⟩
def d_need_free_name : He.DefD := ⟨("need_free_name", none), "need_free_name", "need_free_name", defArgs s_need_free_name, defBody s_need_free_name, defScope s_need_free_name, [], []⟩
def d_need_point : He.DefD := ⟨("need_point", none), "need_point", "need_point", defArgs s_need_point, defBody s_need_point, defScope s_need_point, [], []⟩
def d_offset : He.DefD := ⟨("offset", none), "offset", "offset", defArgs s_offset, defBody s_offset, defScope s_offset, [], []⟩
def d_bounds : He.DefD := ⟨("bounds", none), "bounds", "bounds", defArgs s_bounds, defBody s_bounds, defScope s_bounds, [], []⟩
def d_tie_bounds : He.DefD := ⟨("tie_bounds", none), "tie_bounds", "tie_bounds", defArgs s_tie_bounds, defBody s_tie_bounds, defScope s_tie_bounds, [], []⟩
def d_heard_spans : He.DefD := ⟨("heard_spans", none), "heard_spans", "heard_spans", defArgs s_heard_spans, defBody s_heard_spans, defScope s_heard_spans, [], []⟩
def d_heard_begins : He.DefD := ⟨("heard_begins", none), "heard_begins", "heard_begins", defArgs s_heard_begins, defBody s_heard_begins, defScope s_heard_begins, [], []⟩
def d_late_waits : He.DefD := ⟨("late_waits", none), "late_waits", "late_waits", defArgs s_late_waits, defBody s_late_waits, defScope s_late_waits, [], []⟩
def d_along : He.DefD := ⟨("along", none), "along", "along", defArgs s_along, defBody s_along, defScope s_along, [], []⟩
def d_wait : He.DefD := ⟨("wait", none), "wait", "wait", defArgs s_wait, defBody s_wait, defScope s_wait, [], []⟩
def d_sure : He.DefD := ⟨("sure", none), "sure", "sure", defArgs s_sure, defBody s_sure, defScope s_sure, [], []⟩
def d_soon : He.DefD := ⟨("soon", none), "soon", "soon", defArgs s_soon, defBody s_soon, defScope s_soon, [], []⟩
def d_ahead : He.DefD := ⟨("ahead", none), "ahead", "ahead", defArgs s_ahead, defBody s_ahead, defScope s_ahead, [], []⟩
def d_meaning : He.DefD := ⟨("meaning", none), "meaning", "meaning", defArgs s_meaning, defBody s_meaning, defScope s_meaning, [], []⟩
def d_told_fact : He.DefD := ⟨("told_fact", none), "told_fact", "told_fact", defArgs s_told_fact, defBody s_told_fact, defScope s_told_fact, [], []⟩
def d_late_fact : He.DefD := ⟨("late_fact", none), "late_fact", "late_fact", defArgs s_late_fact, defBody s_late_fact, defScope s_late_fact, [], []⟩
def d_made_fact : He.DefD := ⟨("made_fact", none), "made_fact", "made_fact", defArgs s_made_fact, defBody s_made_fact, defScope s_made_fact, [], []⟩
def d_paper_fits : He.DefD := ⟨("paper_fits", none), "paper_fits", "paper_fits", defArgs s_paper_fits, defBody s_paper_fits, defScope s_paper_fits, [], []⟩
def d__law_flow : He.DefD := ⟨("_law_flow", none), "_law_flow", "_law_flow", defArgs s__law_flow, defBody s__law_flow, defScope s__law_flow, [], []⟩
def d__law_draw : He.DefD := ⟨("_law_draw", none), "_law_draw", "_law_draw", defArgs s__law_draw, defBody s__law_draw, defScope s__law_draw, [], []⟩
def d__law_pick : He.DefD := ⟨("_law_pick", none), "_law_pick", "_law_pick", defArgs s__law_pick, defBody s__law_pick, defScope s__law_pick, [], []⟩
def d__law_same : He.DefD := ⟨("_law_same", none), "_law_same", "_law_same", defArgs s__law_same, defBody s__law_same, defScope s__law_same, [], []⟩
def d__law_names : He.DefD := ⟨("_law_names", none), "_law_names", "_law_names", defArgs s__law_names, defBody s__law_names, defScope s__law_names, [], []⟩
def d__law_model : He.DefD := ⟨("_law_model", none), "_law_model", "_law_model", defArgs s__law_model, defBody s__law_model, defScope s__law_model, [], []⟩
def d__law_points : He.DefD := ⟨("_law_points", none), "_law_points", "_law_points", defArgs s__law_points, defBody s__law_points, defScope s__law_points, [], []⟩
def d__law_web : He.DefD := ⟨("_law_web", none), "_law_web", "_law_web", defArgs s__law_web, defBody s__law_web, defScope s__law_web, [], []⟩
def d__law_wind : He.DefD := ⟨("_law_wind", none), "_law_wind", "_law_wind", defArgs s__law_wind, defBody s__law_wind, defScope s__law_wind, [], []⟩
def d__law_bond : He.DefD := ⟨("_law_bond", none), "_law_bond", "_law_bond", defArgs s__law_bond, defBody s__law_bond, defScope s__law_bond, [], []⟩
def d__law_drawn : He.DefD := ⟨("_law_drawn", none), "_law_drawn", "_law_drawn", defArgs s__law_drawn, defBody s__law_drawn, defScope s__law_drawn, [], []⟩
def d__law_stands : He.DefD := ⟨("_law_stands", none), "_law_stands", "_law_stands", defArgs s__law_stands, defBody s__law_stands, defScope s__law_stands, [], []⟩
def d__law_whole : He.DefD := ⟨("_law_whole", none), "_law_whole", "_law_whole", defArgs s__law_whole, defBody s__law_whole, defScope s__law_whole, [], []⟩
def d__law_field : He.DefD := ⟨("_law_field", none), "_law_field", "_law_field", defArgs s__law_field, defBody s__law_field, defScope s__law_field, [], []⟩
def d__law_heard : He.DefD := ⟨("_law_heard", none), "_law_heard", "_law_heard", defArgs s__law_heard, defBody s__law_heard, defScope s__law_heard, [], []⟩
def d__law_offset : He.DefD := ⟨("_law_offset", none), "_law_offset", "_law_offset", defArgs s__law_offset, defBody s__law_offset, defScope s__law_offset, [], []⟩
def d__law_bounds : He.DefD := ⟨("_law_bounds", none), "_law_bounds", "_law_bounds", defArgs s__law_bounds, defBody s__law_bounds, defScope s__law_bounds, [], []⟩
def d__law_read_pair : He.DefD := ⟨("_law_read_pair", none), "_law_read_pair", "_law_read_pair", defArgs s__law_read_pair, defBody s__law_read_pair, defScope s__law_read_pair, [], []⟩
def d__law_read_one : He.DefD := ⟨("_law_read_one", none), "_law_read_one", "_law_read_one", defArgs s__law_read_one, defBody s__law_read_one, defScope s__law_read_one, [], []⟩
def d__law_read_row : He.DefD := ⟨("_law_read_row", none), "_law_read_row", "_law_read_row", defArgs s__law_read_row, defBody s__law_read_row, defScope s__law_read_row, [], []⟩
def d__law_read_rows : He.DefD := ⟨("_law_read_rows", none), "_law_read_rows", "_law_read_rows", defArgs s__law_read_rows, defBody s__law_read_rows, defScope s__law_read_rows, [], []⟩
def d__law_new_row : He.DefD := ⟨("_law_new_row", none), "_law_new_row", "_law_new_row", defArgs s__law_new_row, defBody s__law_new_row, defScope s__law_new_row, [], []⟩
def d__law_some_rows : He.DefD := ⟨("_law_some_rows", none), "_law_some_rows", "_law_some_rows", defArgs s__law_some_rows, defBody s__law_some_rows, defScope s__law_some_rows, [], []⟩
def d__law_bent_row : He.DefD := ⟨("_law_bent_row", none), "_law_bent_row", "_law_bent_row", defArgs s__law_bent_row, defBody s__law_bent_row, defScope s__law_bent_row, [], []⟩
def d_law : He.DefD := ⟨("law", none), "law", "law", defArgs s_law, defBody s_law, defScope s_law, [], []⟩
def fn : List He.DefD := [d_is_number, d_is_whole, d_is_one_of, d_is_name, d_TideError_UinitU, d_BadPaper_UinitU, d_Web_UinitU, d_Web_with_moment, d_Web_with_span, d_Web_with_tie, d_Web_moments, d_Web_spans, d_Web_ties, d_Web_points, d_Web_UlenU, d_Web_UreprU, d_woven, d_is_begin, d_are_lengths, d_is_lateness, d_are_bounds, d_need_free_name, d_need_point, d_offset, d_bounds, d_tie_bounds, d_heard_spans, d_heard_begins, d_late_waits, d_along, d_wait, d_sure, d_soon, d_ahead, d_meaning, d_told_fact, d_late_fact, d_made_fact, d_paper_fits, d__law_flow, d__law_draw, d__law_pick, d__law_same, d__law_names, d__law_model, d__law_points, d__law_web, d__law_wind, d__law_bond, d__law_drawn, d__law_stands, d__law_whole, d__law_field, d__law_heard, d__law_offset, d__law_bounds, d__law_read_pair, d__law_read_one, d__law_read_row, d__law_read_rows, d__law_new_row, d__law_some_rows, d__law_bent_row, d_law]
def fa0 : List He.Fa := [.glo "is_number", .glo "is_whole", .glo "is_one_of", .glo "is_name", .glo "woven", .glo "is_begin", .glo "are_lengths", .glo "is_lateness", .glo "are_bounds", .glo "need_free_name", .glo "need_point", .glo "offset", .glo "bounds", .glo "tie_bounds", .glo "heard_spans", .glo "heard_begins", .glo "late_waits", .glo "along", .glo "wait", .glo "sure", .glo "soon", .glo "ahead", .glo "meaning", .glo "told_fact", .glo "late_fact", .glo "made_fact", .glo "paper_fits", .glo "_law_flow", .glo "_law_draw", .glo "_law_pick"]
def fa1 : List He.Fa := [.glo "_law_same", .glo "_law_names", .glo "_law_model", .glo "_law_points", .glo "_law_web", .glo "_law_wind", .glo "_law_bond", .glo "_law_drawn", .glo "_law_stands", .glo "_law_whole", .glo "_law_field", .glo "_law_heard", .glo "_law_offset", .glo "_law_bounds", .glo "_law_read_pair", .glo "_law_read_one", .glo "_law_read_row", .glo "_law_read_rows", .glo "_law_new_row", .glo "_law_some_rows", .glo "_law_bent_row", .glo "law", .free "isinstance", .free "int", .free "bool", .free "str", .free "all", .free "len", .free "ValueError", .free "list"]
def fa2 : List He.Fa := [.free "tuple", .free "max", .free "enumerate", .free "abs", .free "dict", .free "range", .free "repr", .str "LETTERS" "abcdefghijklmnopqrstuvwxyz", .int "LONGEST_NAME" 8, .int "BY" 100, .str "START" "start", .int "MOST_BY" 1000, .int "MOST_MOMENTS" 10, .int "MOST_SPANS" 4, .int "MOST_TIES" 40, .int "MOST_LENGTH" 1000, .int "MOST_LATE" 1000, .int "MOST_BOUND" 1000, .str "MOST" "most", .str "UNTIL" "until", .glo "Web", .cls "Web", .mkr "Web", .noat "Web" "by", .noat "Web" "moment_rows", .noat "Web" "span_rows", .noat "Web" "tie_rows", .noat "Web" "__bool__", .meth "Web" "__init__", .meth "Web" "with_moment"]
def fa3 : List He.Fa := [.meth "Web" "with_span", .meth "Web" "with_tie", .meth "Web" "moments", .meth "Web" "spans", .meth "Web" "ties", .meth "Web" "points", .meth "Web" "__len__", .meth "Web" "__repr__", .glo "PAIR_RULES", .glo "SINGLE_RULES", .glo "BadBy", .glo "BadDeed", .glo "BadName", .glo "Taken", .glo "Used", .glo "Full", .glo "BadLength", .glo "BadLate", .glo "BadTie", .glo "NoMoment", .glo "NoPoint", .glo "NoSpan", .glo "NoTie", .glo "NoDeed", .glo "Done", .glo "Unbegun", .glo "Unheard", .glo "TooEarly", .glo "TooLate", .glo "BadNews"]
def fa4 : List He.Fa := [.glo "BadKeeper", .glo "Over", .glo "BadPaper", .glo "BadText", .glo "BadPlan", .glo "Unsteered", .glo "NothingBack", .glo "TideError"]
def fa : List He.Fa := fa0 ++ fa1 ++ fa2 ++ fa3 ++ fa4
def exl0 (K : PySem.W.Frag) : List Bool := [decide (PySem.W.nsIn K (He.ga K "PAIR_RULES") "along" = some (some (.ref (He.ga K "along")))), decide (PySem.W.nsIn K (He.ga K "PAIR_RULES") "wait" = some (some (.ref (He.ga K "wait")))), decide (PySem.W.nsIn K (He.ga K "PAIR_RULES") "told" = some (none)), decide (PySem.W.nsIn K (He.ga K "PAIR_RULES") "late" = some (none)), decide (PySem.W.nsIn K (He.ga K "PAIR_RULES") "sure" = some (none)), decide (PySem.W.nsIn K (He.ga K "PAIR_RULES") "soon" = some (none)), decide (PySem.W.nsIn K (He.ga K "PAIR_RULES") "ahead" = some (none)), decide (PySem.W.nsIn K (He.ga K "PAIR_RULES") "Told" = some (none)), decide (PySem.W.nsIn K (He.ga K "PAIR_RULES") "" = some (none)), decide (PySem.W.nsIn K (He.ga K "SINGLE_RULES") "sure" = some (some (.ref (He.ga K "sure")))), decide (PySem.W.nsIn K (He.ga K "SINGLE_RULES") "soon" = some (some (.ref (He.ga K "soon")))), decide (PySem.W.nsIn K (He.ga K "SINGLE_RULES") "ahead" = some (some (.ref (He.ga K "ahead")))), decide (PySem.W.nsIn K (He.ga K "SINGLE_RULES") "told" = some (none)), decide (PySem.W.nsIn K (He.ga K "SINGLE_RULES") "late" = some (none)), decide (PySem.W.nsIn K (He.ga K "SINGLE_RULES") "along" = some (none)), decide (PySem.W.nsIn K (He.ga K "SINGLE_RULES") "wait" = some (none)), decide (PySem.W.nsIn K (He.ga K "SINGLE_RULES") "Told" = some (none)), decide (PySem.W.nsIn K (He.ga K "SINGLE_RULES") "" = some (none)), viB K "ValueError" "ValueError.__init__", clsDefB K (He.ga K "TideError") (He.ma K (He.ga K "TideError") "__init__") "__init__"]
def exl1 (K : PySem.W.Frag) : List Bool := [oxB bVE K (He.ga K "BadPaper"), xfB K (He.ga K "BadPaper"), initB K (He.ga K "BadPaper"), decide (PySem.W.findIn K (.ref (He.ga K "BadPaper")) "word" = some none), decide (PySem.W.findIn K (.ref (He.ga K "BadPaper")) "row" = some none), decide (PySem.W.exmAny K (.ref (He.ga K "BadPaper")) [.ref (He.ga K "BadBy"), .ref (He.ga K "BadDeed")] = some false), decide (PySem.W.exmAny K (.ref (He.ga K "BadPaper")) [.ref (He.ga K "BadName"), .ref (He.ga K "Taken"), .ref (He.ga K "Used")] = some false), decide (PySem.W.exmAny K (.ref (He.ga K "BadPaper")) [.ref (He.ga K "Full")] = some false), decide (PySem.W.exmAny K (.ref (He.ga K "BadPaper")) [.ref (He.ga K "BadLength")] = some false), decide (PySem.W.exmAny K (.ref (He.ga K "BadPaper")) [.ref (He.ga K "BadLate")] = some false), decide (PySem.W.exmAny K (.ref (He.ga K "BadPaper")) [.ref (He.ga K "BadTie")] = some false), decide (PySem.W.exmAny K (.ref (He.ga K "BadPaper")) [.ref (He.ga K "NoMoment"), .ref (He.ga K "NoPoint"), .ref (He.ga K "NoSpan")] = some false), decide (PySem.W.exmAny K (.ref (He.ga K "BadPaper")) [.ref (He.ga K "NoTie"), .ref (He.ga K "NoDeed")] = some false), decide (PySem.W.exmAny K (.ref (He.ga K "BadPaper")) [.ref (He.ga K "Done"), .ref (He.ga K "Unbegun"), .ref (He.ga K "Unheard")] = some false), decide (PySem.W.exmAny K (.ref (He.ga K "BadPaper")) [.ref (He.ga K "TooEarly"), .ref (He.ga K "TooLate"), .ref (He.ga K "BadNews")] = some false), decide (PySem.W.exmAny K (.ref (He.ga K "BadPaper")) [.ref (He.ga K "BadKeeper"), .ref (He.ga K "Over")] = some false), decide (PySem.W.exmAny K (.ref (He.ga K "BadPaper")) [.ref (He.ga K "BadPaper"), .ref (He.ga K "BadText")] = some true), decide (PySem.W.exmAny K (.ref (He.ga K "BadPaper")) [.ref (He.ga K "BadPaper")] = some true)]
def exl (K : PySem.W.Frag) : List Bool := exl0 K ++ exl1 K
def ex (K : PySem.W.Frag) : Bool := (exl K).all id
theorem exAt {K : PySem.W.Frag} (h : ex K = true) (i : Nat) {b : Bool} (e : (exl K)[i]? = some b) : b = true := List.all_eq_true.mp h b (List.mem_of_getElem? e)
/-- what the top has written -/
structure Tp (K : PySem.W.Frag) (mg : Str → Option Value) : Prop where
  c : He.SaysD fa fn K
  m : ex K = true
  glo : ∀ (i : Nat) (x : Str), fa[i]? = some (.glo x) → mg x = some (.ref (He.ga K x))
  free : ∀ (i : Nat) (x : Str), fa[i]? = some (.free x) → mg x = none
  int : ∀ (i : Nat) (x : Str) (n : Int), fa[i]? = some (.int x n) → ∃ u, mg x = some u ∧ RelV (.int n) u
  str : ∀ (i : Nat) (x z : Str), fa[i]? = some (.str x z) → ∃ u, mg x = some u ∧ RelV (.str z) u
theorem tp_mk {K : PySem.W.Frag} {h : Heap} {mg : Str → Option Value} (X : K.In h) (G : h.Ns mainGlobals mg) (c : He.SaysD fa fn K) (m : ex K = true) : Tp K mg :=
  ⟨c, m, fun i x e => He.glo_ok X G (c.fact i e), fun i x e => He.free_ok X G (c.fact i e), fun i x n e => let ⟨t, h⟩ := He.int_ok X G (c.fact i e); ⟨_, h, t, rfl⟩, fun i x z e => let ⟨t, h⟩ := He.str_ok X G (c.fact i e); ⟨_, h, t, rfl⟩⟩
section
variable {K : PySem.W.Frag} {mg : Str → Option Value}
theorem g_is_number (T : Tp K mg) : mg "is_number" = some (.ref (He.ga K "is_number")) := T.glo 0 _ rfl
theorem g_is_whole (T : Tp K mg) : mg "is_whole" = some (.ref (He.ga K "is_whole")) := T.glo 1 _ rfl
theorem g_is_one_of (T : Tp K mg) : mg "is_one_of" = some (.ref (He.ga K "is_one_of")) := T.glo 2 _ rfl
theorem g_is_name (T : Tp K mg) : mg "is_name" = some (.ref (He.ga K "is_name")) := T.glo 3 _ rfl
theorem g_woven (T : Tp K mg) : mg "woven" = some (.ref (He.ga K "woven")) := T.glo 4 _ rfl
theorem g_is_begin (T : Tp K mg) : mg "is_begin" = some (.ref (He.ga K "is_begin")) := T.glo 5 _ rfl
theorem g_are_lengths (T : Tp K mg) : mg "are_lengths" = some (.ref (He.ga K "are_lengths")) := T.glo 6 _ rfl
theorem g_is_lateness (T : Tp K mg) : mg "is_lateness" = some (.ref (He.ga K "is_lateness")) := T.glo 7 _ rfl
theorem g_are_bounds (T : Tp K mg) : mg "are_bounds" = some (.ref (He.ga K "are_bounds")) := T.glo 8 _ rfl
theorem g_need_free_name (T : Tp K mg) : mg "need_free_name" = some (.ref (He.ga K "need_free_name")) := T.glo 9 _ rfl
theorem g_need_point (T : Tp K mg) : mg "need_point" = some (.ref (He.ga K "need_point")) := T.glo 10 _ rfl
theorem g_offset (T : Tp K mg) : mg "offset" = some (.ref (He.ga K "offset")) := T.glo 11 _ rfl
theorem g_bounds (T : Tp K mg) : mg "bounds" = some (.ref (He.ga K "bounds")) := T.glo 12 _ rfl
theorem g_tie_bounds (T : Tp K mg) : mg "tie_bounds" = some (.ref (He.ga K "tie_bounds")) := T.glo 13 _ rfl
theorem g_heard_spans (T : Tp K mg) : mg "heard_spans" = some (.ref (He.ga K "heard_spans")) := T.glo 14 _ rfl
theorem g_heard_begins (T : Tp K mg) : mg "heard_begins" = some (.ref (He.ga K "heard_begins")) := T.glo 15 _ rfl
theorem g_late_waits (T : Tp K mg) : mg "late_waits" = some (.ref (He.ga K "late_waits")) := T.glo 16 _ rfl
theorem g_along (T : Tp K mg) : mg "along" = some (.ref (He.ga K "along")) := T.glo 17 _ rfl
theorem g_wait (T : Tp K mg) : mg "wait" = some (.ref (He.ga K "wait")) := T.glo 18 _ rfl
theorem g_sure (T : Tp K mg) : mg "sure" = some (.ref (He.ga K "sure")) := T.glo 19 _ rfl
theorem g_soon (T : Tp K mg) : mg "soon" = some (.ref (He.ga K "soon")) := T.glo 20 _ rfl
theorem g_ahead (T : Tp K mg) : mg "ahead" = some (.ref (He.ga K "ahead")) := T.glo 21 _ rfl
theorem g_meaning (T : Tp K mg) : mg "meaning" = some (.ref (He.ga K "meaning")) := T.glo 22 _ rfl
theorem g_told_fact (T : Tp K mg) : mg "told_fact" = some (.ref (He.ga K "told_fact")) := T.glo 23 _ rfl
theorem g_late_fact (T : Tp K mg) : mg "late_fact" = some (.ref (He.ga K "late_fact")) := T.glo 24 _ rfl
theorem g_made_fact (T : Tp K mg) : mg "made_fact" = some (.ref (He.ga K "made_fact")) := T.glo 25 _ rfl
theorem g_paper_fits (T : Tp K mg) : mg "paper_fits" = some (.ref (He.ga K "paper_fits")) := T.glo 26 _ rfl
theorem g__law_flow (T : Tp K mg) : mg "_law_flow" = some (.ref (He.ga K "_law_flow")) := T.glo 27 _ rfl
theorem g__law_draw (T : Tp K mg) : mg "_law_draw" = some (.ref (He.ga K "_law_draw")) := T.glo 28 _ rfl
theorem g__law_pick (T : Tp K mg) : mg "_law_pick" = some (.ref (He.ga K "_law_pick")) := T.glo 29 _ rfl
theorem g__law_same (T : Tp K mg) : mg "_law_same" = some (.ref (He.ga K "_law_same")) := T.glo 30 _ rfl
theorem g__law_names (T : Tp K mg) : mg "_law_names" = some (.ref (He.ga K "_law_names")) := T.glo 31 _ rfl
theorem g__law_model (T : Tp K mg) : mg "_law_model" = some (.ref (He.ga K "_law_model")) := T.glo 32 _ rfl
theorem g__law_points (T : Tp K mg) : mg "_law_points" = some (.ref (He.ga K "_law_points")) := T.glo 33 _ rfl
theorem g__law_web (T : Tp K mg) : mg "_law_web" = some (.ref (He.ga K "_law_web")) := T.glo 34 _ rfl
theorem g__law_wind (T : Tp K mg) : mg "_law_wind" = some (.ref (He.ga K "_law_wind")) := T.glo 35 _ rfl
theorem g__law_bond (T : Tp K mg) : mg "_law_bond" = some (.ref (He.ga K "_law_bond")) := T.glo 36 _ rfl
theorem g__law_drawn (T : Tp K mg) : mg "_law_drawn" = some (.ref (He.ga K "_law_drawn")) := T.glo 37 _ rfl
theorem g__law_stands (T : Tp K mg) : mg "_law_stands" = some (.ref (He.ga K "_law_stands")) := T.glo 38 _ rfl
theorem g__law_whole (T : Tp K mg) : mg "_law_whole" = some (.ref (He.ga K "_law_whole")) := T.glo 39 _ rfl
theorem g__law_field (T : Tp K mg) : mg "_law_field" = some (.ref (He.ga K "_law_field")) := T.glo 40 _ rfl
theorem g__law_heard (T : Tp K mg) : mg "_law_heard" = some (.ref (He.ga K "_law_heard")) := T.glo 41 _ rfl
theorem g__law_offset (T : Tp K mg) : mg "_law_offset" = some (.ref (He.ga K "_law_offset")) := T.glo 42 _ rfl
theorem g__law_bounds (T : Tp K mg) : mg "_law_bounds" = some (.ref (He.ga K "_law_bounds")) := T.glo 43 _ rfl
theorem g__law_read_pair (T : Tp K mg) : mg "_law_read_pair" = some (.ref (He.ga K "_law_read_pair")) := T.glo 44 _ rfl
theorem g__law_read_one (T : Tp K mg) : mg "_law_read_one" = some (.ref (He.ga K "_law_read_one")) := T.glo 45 _ rfl
theorem g__law_read_row (T : Tp K mg) : mg "_law_read_row" = some (.ref (He.ga K "_law_read_row")) := T.glo 46 _ rfl
theorem g__law_read_rows (T : Tp K mg) : mg "_law_read_rows" = some (.ref (He.ga K "_law_read_rows")) := T.glo 47 _ rfl
theorem g__law_new_row (T : Tp K mg) : mg "_law_new_row" = some (.ref (He.ga K "_law_new_row")) := T.glo 48 _ rfl
theorem g__law_some_rows (T : Tp K mg) : mg "_law_some_rows" = some (.ref (He.ga K "_law_some_rows")) := T.glo 49 _ rfl
theorem g__law_bent_row (T : Tp K mg) : mg "_law_bent_row" = some (.ref (He.ga K "_law_bent_row")) := T.glo 50 _ rfl
theorem g_law (T : Tp K mg) : mg "law" = some (.ref (He.ga K "law")) := T.glo 51 _ rfl
theorem z_isinstance (T : Tp K mg) : mg "isinstance" = none := T.free 52 _ rfl
theorem z_int (T : Tp K mg) : mg "int" = none := T.free 53 _ rfl
theorem z_bool (T : Tp K mg) : mg "bool" = none := T.free 54 _ rfl
theorem z_str (T : Tp K mg) : mg "str" = none := T.free 55 _ rfl
theorem z_all (T : Tp K mg) : mg "all" = none := T.free 56 _ rfl
theorem z_len (T : Tp K mg) : mg "len" = none := T.free 57 _ rfl
theorem z_ValueError (T : Tp K mg) : mg "ValueError" = none := T.free 58 _ rfl
theorem z_list (T : Tp K mg) : mg "list" = none := T.free 59 _ rfl
theorem z_tuple (T : Tp K mg) : mg "tuple" = none := T.free 60 _ rfl
theorem z_max (T : Tp K mg) : mg "max" = none := T.free 61 _ rfl
theorem z_enumerate (T : Tp K mg) : mg "enumerate" = none := T.free 62 _ rfl
theorem z_abs (T : Tp K mg) : mg "abs" = none := T.free 63 _ rfl
theorem z_dict (T : Tp K mg) : mg "dict" = none := T.free 64 _ rfl
theorem z_range (T : Tp K mg) : mg "range" = none := T.free 65 _ rfl
theorem z_repr (T : Tp K mg) : mg "repr" = none := T.free 66 _ rfl
theorem c_LETTERS (T : Tp K mg) : ∃ u, mg "LETTERS" = some u ∧ RelV (.str "abcdefghijklmnopqrstuvwxyz") u := T.str 67 _ _ rfl
theorem c_LONGEST_NAME (T : Tp K mg) : ∃ u, mg "LONGEST_NAME" = some u ∧ RelV (.int 8) u := T.int 68 _ _ rfl
theorem c_BY (T : Tp K mg) : ∃ u, mg "BY" = some u ∧ RelV (.int 100) u := T.int 69 _ _ rfl
theorem c_START (T : Tp K mg) : ∃ u, mg "START" = some u ∧ RelV (.str "start") u := T.str 70 _ _ rfl
theorem c_MOST_BY (T : Tp K mg) : ∃ u, mg "MOST_BY" = some u ∧ RelV (.int 1000) u := T.int 71 _ _ rfl
theorem c_MOST_MOMENTS (T : Tp K mg) : ∃ u, mg "MOST_MOMENTS" = some u ∧ RelV (.int 10) u := T.int 72 _ _ rfl
theorem c_MOST_SPANS (T : Tp K mg) : ∃ u, mg "MOST_SPANS" = some u ∧ RelV (.int 4) u := T.int 73 _ _ rfl
theorem c_MOST_TIES (T : Tp K mg) : ∃ u, mg "MOST_TIES" = some u ∧ RelV (.int 40) u := T.int 74 _ _ rfl
theorem c_MOST_LENGTH (T : Tp K mg) : ∃ u, mg "MOST_LENGTH" = some u ∧ RelV (.int 1000) u := T.int 75 _ _ rfl
theorem c_MOST_LATE (T : Tp K mg) : ∃ u, mg "MOST_LATE" = some u ∧ RelV (.int 1000) u := T.int 76 _ _ rfl
theorem c_MOST_BOUND (T : Tp K mg) : ∃ u, mg "MOST_BOUND" = some u ∧ RelV (.int 1000) u := T.int 77 _ _ rfl
theorem c_MOST (T : Tp K mg) : ∃ u, mg "MOST" = some u ∧ RelV (.str "most") u := T.str 78 _ _ rfl
theorem c_UNTIL (T : Tp K mg) : ∃ u, mg "UNTIL" = some u ∧ RelV (.str "until") u := T.str 79 _ _ rfl
theorem g_Web (T : Tp K mg) : mg "Web" = some (.ref (He.ga K "Web")) := T.glo 80 _ rfl
theorem cl_Web (T : Tp K mg) : Cls K (He.ga K "Web") := He.cls_ok (T.c.fact 81 (f := .cls "Web") rfl)
theorem mk_Web (T : Tp K mg) : Mk K (He.ga K "Web") (He.ma K (He.ga K "Web") "__init__") := He.mkr_ok (T.c.fact 82 (f := .mkr "Web") rfl)
theorem na_by (T : Tp K mg) : NoAttr K (He.ga K "Web") "by" := He.noat_ok (T.c.fact 83 (f := .noat "Web" "by") rfl)
theorem na_moment_rows (T : Tp K mg) : NoAttr K (He.ga K "Web") "moment_rows" := He.noat_ok (T.c.fact 84 (f := .noat "Web" "moment_rows") rfl)
theorem na_span_rows (T : Tp K mg) : NoAttr K (He.ga K "Web") "span_rows" := He.noat_ok (T.c.fact 85 (f := .noat "Web" "span_rows") rfl)
theorem na_tie_rows (T : Tp K mg) : NoAttr K (He.ga K "Web") "tie_rows" := He.noat_ok (T.c.fact 86 (f := .noat "Web" "tie_rows") rfl)
theorem na_bool (T : Tp K mg) : NoAttr K (He.ga K "Web") "__bool__" := He.noat_ok (T.c.fact 87 (f := .noat "Web" "__bool__") rfl)
theorem me_Web_UinitU (T : Tp K mg) : Meth K (He.ga K "Web") "__init__" (He.ma K (He.ga K "Web") "__init__") := He.meth_ok (T.c.fact 88 (f := .meth "Web" "__init__") rfl)
theorem me_Web_with_moment (T : Tp K mg) : Meth K (He.ga K "Web") "with_moment" (He.ma K (He.ga K "Web") "with_moment") := He.meth_ok (T.c.fact 89 (f := .meth "Web" "with_moment") rfl)
theorem me_Web_with_span (T : Tp K mg) : Meth K (He.ga K "Web") "with_span" (He.ma K (He.ga K "Web") "with_span") := He.meth_ok (T.c.fact 90 (f := .meth "Web" "with_span") rfl)
theorem me_Web_with_tie (T : Tp K mg) : Meth K (He.ga K "Web") "with_tie" (He.ma K (He.ga K "Web") "with_tie") := He.meth_ok (T.c.fact 91 (f := .meth "Web" "with_tie") rfl)
theorem me_Web_moments (T : Tp K mg) : Meth K (He.ga K "Web") "moments" (He.ma K (He.ga K "Web") "moments") := He.meth_ok (T.c.fact 92 (f := .meth "Web" "moments") rfl)
theorem me_Web_spans (T : Tp K mg) : Meth K (He.ga K "Web") "spans" (He.ma K (He.ga K "Web") "spans") := He.meth_ok (T.c.fact 93 (f := .meth "Web" "spans") rfl)
theorem me_Web_ties (T : Tp K mg) : Meth K (He.ga K "Web") "ties" (He.ma K (He.ga K "Web") "ties") := He.meth_ok (T.c.fact 94 (f := .meth "Web" "ties") rfl)
theorem me_Web_points (T : Tp K mg) : Meth K (He.ga K "Web") "points" (He.ma K (He.ga K "Web") "points") := He.meth_ok (T.c.fact 95 (f := .meth "Web" "points") rfl)
theorem me_Web_UlenU (T : Tp K mg) : Meth K (He.ga K "Web") "__len__" (He.ma K (He.ga K "Web") "__len__") := He.meth_ok (T.c.fact 96 (f := .meth "Web" "__len__") rfl)
theorem me_Web_UreprU (T : Tp K mg) : Meth K (He.ga K "Web") "__repr__" (He.ma K (He.ga K "Web") "__repr__") := He.meth_ok (T.c.fact 97 (f := .meth "Web" "__repr__") rfl)
theorem g_PAIR_RULES (T : Tp K mg) : mg "PAIR_RULES" = some (.ref (He.ga K "PAIR_RULES")) := T.glo 98 _ rfl
theorem g_SINGLE_RULES (T : Tp K mg) : mg "SINGLE_RULES" = some (.ref (He.ga K "SINGLE_RULES")) := T.glo 99 _ rfl
theorem g_BadBy (T : Tp K mg) : mg "BadBy" = some (.ref (He.ga K "BadBy")) := T.glo 100 _ rfl
theorem g_BadDeed (T : Tp K mg) : mg "BadDeed" = some (.ref (He.ga K "BadDeed")) := T.glo 101 _ rfl
theorem g_BadName (T : Tp K mg) : mg "BadName" = some (.ref (He.ga K "BadName")) := T.glo 102 _ rfl
theorem g_Taken (T : Tp K mg) : mg "Taken" = some (.ref (He.ga K "Taken")) := T.glo 103 _ rfl
theorem g_Used (T : Tp K mg) : mg "Used" = some (.ref (He.ga K "Used")) := T.glo 104 _ rfl
theorem g_Full (T : Tp K mg) : mg "Full" = some (.ref (He.ga K "Full")) := T.glo 105 _ rfl
theorem g_BadLength (T : Tp K mg) : mg "BadLength" = some (.ref (He.ga K "BadLength")) := T.glo 106 _ rfl
theorem g_BadLate (T : Tp K mg) : mg "BadLate" = some (.ref (He.ga K "BadLate")) := T.glo 107 _ rfl
theorem g_BadTie (T : Tp K mg) : mg "BadTie" = some (.ref (He.ga K "BadTie")) := T.glo 108 _ rfl
theorem g_NoMoment (T : Tp K mg) : mg "NoMoment" = some (.ref (He.ga K "NoMoment")) := T.glo 109 _ rfl
theorem g_NoPoint (T : Tp K mg) : mg "NoPoint" = some (.ref (He.ga K "NoPoint")) := T.glo 110 _ rfl
theorem g_NoSpan (T : Tp K mg) : mg "NoSpan" = some (.ref (He.ga K "NoSpan")) := T.glo 111 _ rfl
theorem g_NoTie (T : Tp K mg) : mg "NoTie" = some (.ref (He.ga K "NoTie")) := T.glo 112 _ rfl
theorem g_NoDeed (T : Tp K mg) : mg "NoDeed" = some (.ref (He.ga K "NoDeed")) := T.glo 113 _ rfl
theorem g_Done (T : Tp K mg) : mg "Done" = some (.ref (He.ga K "Done")) := T.glo 114 _ rfl
theorem g_Unbegun (T : Tp K mg) : mg "Unbegun" = some (.ref (He.ga K "Unbegun")) := T.glo 115 _ rfl
theorem g_Unheard (T : Tp K mg) : mg "Unheard" = some (.ref (He.ga K "Unheard")) := T.glo 116 _ rfl
theorem g_TooEarly (T : Tp K mg) : mg "TooEarly" = some (.ref (He.ga K "TooEarly")) := T.glo 117 _ rfl
theorem g_TooLate (T : Tp K mg) : mg "TooLate" = some (.ref (He.ga K "TooLate")) := T.glo 118 _ rfl
theorem g_BadNews (T : Tp K mg) : mg "BadNews" = some (.ref (He.ga K "BadNews")) := T.glo 119 _ rfl
theorem g_BadKeeper (T : Tp K mg) : mg "BadKeeper" = some (.ref (He.ga K "BadKeeper")) := T.glo 120 _ rfl
theorem g_Over (T : Tp K mg) : mg "Over" = some (.ref (He.ga K "Over")) := T.glo 121 _ rfl
theorem g_BadPaper (T : Tp K mg) : mg "BadPaper" = some (.ref (He.ga K "BadPaper")) := T.glo 122 _ rfl
theorem g_BadText (T : Tp K mg) : mg "BadText" = some (.ref (He.ga K "BadText")) := T.glo 123 _ rfl
theorem g_BadPlan (T : Tp K mg) : mg "BadPlan" = some (.ref (He.ga K "BadPlan")) := T.glo 124 _ rfl
theorem g_Unsteered (T : Tp K mg) : mg "Unsteered" = some (.ref (He.ga K "Unsteered")) := T.glo 125 _ rfl
theorem g_NothingBack (T : Tp K mg) : mg "NothingBack" = some (.ref (He.ga K "NothingBack")) := T.glo 126 _ rfl
theorem g_TideError (T : Tp K mg) : mg "TideError" = some (.ref (He.ga K "TideError")) := T.glo 127 _ rfl
theorem nt_PAIR_RULES_along (T : Tp K mg) : PySem.W.nsIn K (He.ga K "PAIR_RULES") "along" = some (some (.ref (He.ga K "along"))) := of_decide_eq_true (exAt T.m 0 rfl)
theorem nt_PAIR_RULES_wait (T : Tp K mg) : PySem.W.nsIn K (He.ga K "PAIR_RULES") "wait" = some (some (.ref (He.ga K "wait"))) := of_decide_eq_true (exAt T.m 1 rfl)
theorem nt_PAIR_RULES_told (T : Tp K mg) : PySem.W.nsIn K (He.ga K "PAIR_RULES") "told" = some (none) := of_decide_eq_true (exAt T.m 2 rfl)
theorem nt_PAIR_RULES_late (T : Tp K mg) : PySem.W.nsIn K (He.ga K "PAIR_RULES") "late" = some (none) := of_decide_eq_true (exAt T.m 3 rfl)
theorem nt_PAIR_RULES_sure (T : Tp K mg) : PySem.W.nsIn K (He.ga K "PAIR_RULES") "sure" = some (none) := of_decide_eq_true (exAt T.m 4 rfl)
theorem nt_PAIR_RULES_soon (T : Tp K mg) : PySem.W.nsIn K (He.ga K "PAIR_RULES") "soon" = some (none) := of_decide_eq_true (exAt T.m 5 rfl)
theorem nt_PAIR_RULES_ahead (T : Tp K mg) : PySem.W.nsIn K (He.ga K "PAIR_RULES") "ahead" = some (none) := of_decide_eq_true (exAt T.m 6 rfl)
theorem nt_PAIR_RULES_Told (T : Tp K mg) : PySem.W.nsIn K (He.ga K "PAIR_RULES") "Told" = some (none) := of_decide_eq_true (exAt T.m 7 rfl)
theorem nt_PAIR_RULES_empty (T : Tp K mg) : PySem.W.nsIn K (He.ga K "PAIR_RULES") "" = some (none) := of_decide_eq_true (exAt T.m 8 rfl)
theorem nt_SINGLE_RULES_sure (T : Tp K mg) : PySem.W.nsIn K (He.ga K "SINGLE_RULES") "sure" = some (some (.ref (He.ga K "sure"))) := of_decide_eq_true (exAt T.m 9 rfl)
theorem nt_SINGLE_RULES_soon (T : Tp K mg) : PySem.W.nsIn K (He.ga K "SINGLE_RULES") "soon" = some (some (.ref (He.ga K "soon"))) := of_decide_eq_true (exAt T.m 10 rfl)
theorem nt_SINGLE_RULES_ahead (T : Tp K mg) : PySem.W.nsIn K (He.ga K "SINGLE_RULES") "ahead" = some (some (.ref (He.ga K "ahead"))) := of_decide_eq_true (exAt T.m 11 rfl)
theorem nt_SINGLE_RULES_told (T : Tp K mg) : PySem.W.nsIn K (He.ga K "SINGLE_RULES") "told" = some (none) := of_decide_eq_true (exAt T.m 12 rfl)
theorem nt_SINGLE_RULES_late (T : Tp K mg) : PySem.W.nsIn K (He.ga K "SINGLE_RULES") "late" = some (none) := of_decide_eq_true (exAt T.m 13 rfl)
theorem nt_SINGLE_RULES_along (T : Tp K mg) : PySem.W.nsIn K (He.ga K "SINGLE_RULES") "along" = some (none) := of_decide_eq_true (exAt T.m 14 rfl)
theorem nt_SINGLE_RULES_wait (T : Tp K mg) : PySem.W.nsIn K (He.ga K "SINGLE_RULES") "wait" = some (none) := of_decide_eq_true (exAt T.m 15 rfl)
theorem nt_SINGLE_RULES_Told (T : Tp K mg) : PySem.W.nsIn K (He.ga K "SINGLE_RULES") "Told" = some (none) := of_decide_eq_true (exAt T.m 16 rfl)
theorem nt_SINGLE_RULES_empty (T : Tp K mg) : PySem.W.nsIn K (He.ga K "SINGLE_RULES") "" = some (none) := of_decide_eq_true (exAt T.m 17 rfl)
theorem vi_ValueError (T : Tp K mg) : PySem.W.findCls K (.type "ValueError") (.type "type") "__init__" = some (.val (.builtin "ValueError.__init__")) := viB_ok (exAt T.m 18 rfl)
theorem cd_TideError (T : Tp K mg) : ClsDef K (He.ga K "TideError") (He.ma K (He.ga K "TideError") "__init__") "__init__" := clsDefB_ok (exAt T.m 19 rfl)
theorem oe_BadPaper (T : Tp K mg) : OxC bVE K (He.ga K "BadPaper") := oxB_ok bVE_ok (exAt T.m 20 rfl)
theorem xf_BadPaper (T : Tp K mg) : XfC K (He.ga K "BadPaper") := xfB_ok (exAt T.m 21 rfl)
theorem in_BadPaper (T : Tp K mg) : InitAt K (He.ga K "BadPaper") (He.ma K (He.ga K "BadPaper") "__init__") := initB_ok (exAt T.m 22 rfl)
theorem nf_BadPaper_word (T : Tp K mg) : PySem.W.findIn K (.ref (He.ga K "BadPaper")) "word" = some none := of_decide_eq_true (exAt T.m 23 rfl)
theorem nf_BadPaper_row (T : Tp K mg) : PySem.W.findIn K (.ref (He.ga K "BadPaper")) "row" = some none := of_decide_eq_true (exAt T.m 24 rfl)
theorem em_BadPaper_0 (T : Tp K mg) : PySem.W.exmAny K (.ref (He.ga K "BadPaper")) [.ref (He.ga K "BadBy"), .ref (He.ga K "BadDeed")] = some false := of_decide_eq_true (exAt T.m 25 rfl)
theorem em_BadPaper_1 (T : Tp K mg) : PySem.W.exmAny K (.ref (He.ga K "BadPaper")) [.ref (He.ga K "BadName"), .ref (He.ga K "Taken"), .ref (He.ga K "Used")] = some false := of_decide_eq_true (exAt T.m 26 rfl)
theorem em_BadPaper_2 (T : Tp K mg) : PySem.W.exmAny K (.ref (He.ga K "BadPaper")) [.ref (He.ga K "Full")] = some false := of_decide_eq_true (exAt T.m 27 rfl)
theorem em_BadPaper_3 (T : Tp K mg) : PySem.W.exmAny K (.ref (He.ga K "BadPaper")) [.ref (He.ga K "BadLength")] = some false := of_decide_eq_true (exAt T.m 28 rfl)
theorem em_BadPaper_4 (T : Tp K mg) : PySem.W.exmAny K (.ref (He.ga K "BadPaper")) [.ref (He.ga K "BadLate")] = some false := of_decide_eq_true (exAt T.m 29 rfl)
theorem em_BadPaper_5 (T : Tp K mg) : PySem.W.exmAny K (.ref (He.ga K "BadPaper")) [.ref (He.ga K "BadTie")] = some false := of_decide_eq_true (exAt T.m 30 rfl)
theorem em_BadPaper_6 (T : Tp K mg) : PySem.W.exmAny K (.ref (He.ga K "BadPaper")) [.ref (He.ga K "NoMoment"), .ref (He.ga K "NoPoint"), .ref (He.ga K "NoSpan")] = some false := of_decide_eq_true (exAt T.m 31 rfl)
theorem em_BadPaper_7 (T : Tp K mg) : PySem.W.exmAny K (.ref (He.ga K "BadPaper")) [.ref (He.ga K "NoTie"), .ref (He.ga K "NoDeed")] = some false := of_decide_eq_true (exAt T.m 32 rfl)
theorem em_BadPaper_8 (T : Tp K mg) : PySem.W.exmAny K (.ref (He.ga K "BadPaper")) [.ref (He.ga K "Done"), .ref (He.ga K "Unbegun"), .ref (He.ga K "Unheard")] = some false := of_decide_eq_true (exAt T.m 33 rfl)
theorem em_BadPaper_9 (T : Tp K mg) : PySem.W.exmAny K (.ref (He.ga K "BadPaper")) [.ref (He.ga K "TooEarly"), .ref (He.ga K "TooLate"), .ref (He.ga K "BadNews")] = some false := of_decide_eq_true (exAt T.m 34 rfl)
theorem em_BadPaper_10 (T : Tp K mg) : PySem.W.exmAny K (.ref (He.ga K "BadPaper")) [.ref (He.ga K "BadKeeper"), .ref (He.ga K "Over")] = some false := of_decide_eq_true (exAt T.m 35 rfl)
theorem em_BadPaper_11 (T : Tp K mg) : PySem.W.exmAny K (.ref (He.ga K "BadPaper")) [.ref (He.ga K "BadPaper"), .ref (He.ga K "BadText")] = some true := of_decide_eq_true (exAt T.m 36 rfl)
theorem et_BadPaper_paper_fits_0 (T : Tp K mg) : PySem.W.exmAny K (.ref (He.ga K "BadPaper")) [.ref (He.ga K "BadPaper")] = some true := of_decide_eq_true (exAt T.m 37 rfl)
theorem f_is_number (T : Tp K mg) : ∃ fd, FunD K "is_number" "is_number" (defArgs s_is_number) (defBody s_is_number) (defScope s_is_number) [] [] (He.ga K "is_number") fd := T.c.def_ 0 (d := d_is_number) rfl
theorem b_is_number {f : Addr} {fd : FuncData} (F : FunD K "is_number" "is_number" (defArgs s_is_number) (defBody s_is_number) (defScope s_is_number) [] [] f fd) : Binds K fd ["thing"] [] := F.bindsN fun _ _ _ _ _ _ us hl => match us, hl with | [_], _ => rfl
theorem f_is_whole (T : Tp K mg) : ∃ fd, FunD K "is_whole" "is_whole" (defArgs s_is_whole) (defBody s_is_whole) (defScope s_is_whole) [] [] (He.ga K "is_whole") fd := T.c.def_ 1 (d := d_is_whole) rfl
theorem b_is_whole {f : Addr} {fd : FuncData} (F : FunD K "is_whole" "is_whole" (defArgs s_is_whole) (defBody s_is_whole) (defScope s_is_whole) [] [] f fd) : Binds K fd ["thing", "least", "most"] [] := F.bindsN fun _ _ _ _ _ _ us hl => match us, hl with | [_, _, _], _ => rfl
theorem f_is_one_of (T : Tp K mg) : ∃ fd, FunD K "is_one_of" "is_one_of" (defArgs s_is_one_of) (defBody s_is_one_of) (defScope s_is_one_of) [] [] (He.ga K "is_one_of") fd := T.c.def_ 2 (d := d_is_one_of) rfl
theorem b_is_one_of {f : Addr} {fd : FuncData} (F : FunD K "is_one_of" "is_one_of" (defArgs s_is_one_of) (defBody s_is_one_of) (defScope s_is_one_of) [] [] f fd) : Binds K fd ["thing", "names"] [] := F.bindsN fun _ _ _ _ _ _ us hl => match us, hl with | [_, _], _ => rfl
theorem f_is_name (T : Tp K mg) : ∃ fd, FunD K "is_name" "is_name" (defArgs s_is_name) (defBody s_is_name) (defScope s_is_name) [] [] (He.ga K "is_name") fd := T.c.def_ 3 (d := d_is_name) rfl
theorem b_is_name {f : Addr} {fd : FuncData} (F : FunD K "is_name" "is_name" (defArgs s_is_name) (defBody s_is_name) (defScope s_is_name) [] [] f fd) : Binds K fd ["thing"] [] := F.bindsN fun _ _ _ _ _ _ us hl => match us, hl with | [_], _ => rfl
theorem f_TideError_UinitU (T : Tp K mg) : ∃ fd, FunD K "__init__" "TideError.__init__" (defArgs s_TideError_UinitU) (defBody s_TideError_UinitU) (defScope s_TideError_UinitU) [(V.str "TideError" : V), (V.str "refused" : V)] [] (He.ma K (He.ga K "TideError") "__init__") fd := T.c.def_ 4 (d := d_TideError_UinitU) rfl
theorem f_BadPaper_UinitU (T : Tp K mg) : ∃ fd, FunD K "__init__" "BadPaper.__init__" (defArgs s_BadPaper_UinitU) (defBody s_BadPaper_UinitU) (defScope s_BadPaper_UinitU) [] [] (He.ma K (He.ga K "BadPaper") "__init__") fd := T.c.def_ 5 (d := d_BadPaper_UinitU) rfl
theorem b_BadPaper_UinitU {f : Addr} {fd : FuncData} (F : FunD K "__init__" "BadPaper.__init__" (defArgs s_BadPaper_UinitU) (defBody s_BadPaper_UinitU) (defScope s_BadPaper_UinitU) [] [] f fd) : Binds K fd ["self", "row"] [] := F.bindsN fun _ _ _ _ _ _ us hl => match us, hl with | [_, _], _ => rfl
theorem f_Web_UinitU (T : Tp K mg) : ∃ fd, FunD K "__init__" "Web.__init__" (defArgs s_Web_UinitU) (defBody s_Web_UinitU) (defScope s_Web_UinitU) [(V.int 100 : V)] [] (He.ma K (He.ga K "Web") "__init__") fd := T.c.def_ 6 (d := d_Web_UinitU) rfl
theorem f_Web_with_moment (T : Tp K mg) : ∃ fd, FunD K "with_moment" "Web.with_moment" (defArgs s_Web_with_moment) (defBody s_Web_with_moment) (defScope s_Web_with_moment) [] [] (He.ma K (He.ga K "Web") "with_moment") fd := T.c.def_ 7 (d := d_Web_with_moment) rfl
theorem b_Web_with_moment {f : Addr} {fd : FuncData} (F : FunD K "with_moment" "Web.with_moment" (defArgs s_Web_with_moment) (defBody s_Web_with_moment) (defScope s_Web_with_moment) [] [] f fd) : Binds K fd ["self", "name"] [] := F.bindsN fun _ _ _ _ _ _ us hl => match us, hl with | [_, _], _ => rfl
theorem f_Web_with_span (T : Tp K mg) : ∃ fd, FunD K "with_span" "Web.with_span" (defArgs s_Web_with_span) (defBody s_Web_with_span) (defScope s_Web_with_span) [] [("late", V.int 0)] (He.ma K (He.ga K "Web") "with_span") fd := T.c.def_ 8 (d := d_Web_with_span) rfl
theorem f_Web_with_tie (T : Tp K mg) : ∃ fd, FunD K "with_tie" "Web.with_tie" (defArgs s_Web_with_tie) (defBody s_Web_with_tie) (defScope s_Web_with_tie) [] [("least", V.non), ("most", V.non)] (He.ma K (He.ga K "Web") "with_tie") fd := T.c.def_ 9 (d := d_Web_with_tie) rfl
theorem f_Web_moments (T : Tp K mg) : ∃ fd, FunD K "moments" "Web.moments" (defArgs s_Web_moments) (defBody s_Web_moments) (defScope s_Web_moments) [] [] (He.ma K (He.ga K "Web") "moments") fd := T.c.def_ 10 (d := d_Web_moments) rfl
theorem b_Web_moments {f : Addr} {fd : FuncData} (F : FunD K "moments" "Web.moments" (defArgs s_Web_moments) (defBody s_Web_moments) (defScope s_Web_moments) [] [] f fd) : Binds K fd ["self"] [] := F.bindsN fun _ _ _ _ _ _ us hl => match us, hl with | [_], _ => rfl
theorem f_Web_spans (T : Tp K mg) : ∃ fd, FunD K "spans" "Web.spans" (defArgs s_Web_spans) (defBody s_Web_spans) (defScope s_Web_spans) [] [] (He.ma K (He.ga K "Web") "spans") fd := T.c.def_ 11 (d := d_Web_spans) rfl
theorem b_Web_spans {f : Addr} {fd : FuncData} (F : FunD K "spans" "Web.spans" (defArgs s_Web_spans) (defBody s_Web_spans) (defScope s_Web_spans) [] [] f fd) : Binds K fd ["self"] [] := F.bindsN fun _ _ _ _ _ _ us hl => match us, hl with | [_], _ => rfl
theorem f_Web_ties (T : Tp K mg) : ∃ fd, FunD K "ties" "Web.ties" (defArgs s_Web_ties) (defBody s_Web_ties) (defScope s_Web_ties) [] [] (He.ma K (He.ga K "Web") "ties") fd := T.c.def_ 12 (d := d_Web_ties) rfl
theorem b_Web_ties {f : Addr} {fd : FuncData} (F : FunD K "ties" "Web.ties" (defArgs s_Web_ties) (defBody s_Web_ties) (defScope s_Web_ties) [] [] f fd) : Binds K fd ["self"] [] := F.bindsN fun _ _ _ _ _ _ us hl => match us, hl with | [_], _ => rfl
theorem f_Web_points (T : Tp K mg) : ∃ fd, FunD K "points" "Web.points" (defArgs s_Web_points) (defBody s_Web_points) (defScope s_Web_points) [] [] (He.ma K (He.ga K "Web") "points") fd := T.c.def_ 13 (d := d_Web_points) rfl
theorem b_Web_points {f : Addr} {fd : FuncData} (F : FunD K "points" "Web.points" (defArgs s_Web_points) (defBody s_Web_points) (defScope s_Web_points) [] [] f fd) : Binds K fd ["self"] [] := F.bindsN fun _ _ _ _ _ _ us hl => match us, hl with | [_], _ => rfl
theorem f_Web_UlenU (T : Tp K mg) : ∃ fd, FunD K "__len__" "Web.__len__" (defArgs s_Web_UlenU) (defBody s_Web_UlenU) (defScope s_Web_UlenU) [] [] (He.ma K (He.ga K "Web") "__len__") fd := T.c.def_ 14 (d := d_Web_UlenU) rfl
theorem b_Web_UlenU {f : Addr} {fd : FuncData} (F : FunD K "__len__" "Web.__len__" (defArgs s_Web_UlenU) (defBody s_Web_UlenU) (defScope s_Web_UlenU) [] [] f fd) : Binds K fd ["self"] [] := F.bindsN fun _ _ _ _ _ _ us hl => match us, hl with | [_], _ => rfl
theorem f_Web_UreprU (T : Tp K mg) : ∃ fd, FunD K "__repr__" "Web.__repr__" (defArgs s_Web_UreprU) (defBody s_Web_UreprU) (defScope s_Web_UreprU) [] [] (He.ma K (He.ga K "Web") "__repr__") fd := T.c.def_ 15 (d := d_Web_UreprU) rfl
theorem b_Web_UreprU {f : Addr} {fd : FuncData} (F : FunD K "__repr__" "Web.__repr__" (defArgs s_Web_UreprU) (defBody s_Web_UreprU) (defScope s_Web_UreprU) [] [] f fd) : Binds K fd ["self"] [] := F.bindsN fun _ _ _ _ _ _ us hl => match us, hl with | [_], _ => rfl
theorem f_woven (T : Tp K mg) : ∃ fd, FunD K "woven" "woven" (defArgs s_woven) (defBody s_woven) (defScope s_woven) [] [] (He.ga K "woven") fd := T.c.def_ 16 (d := d_woven) rfl
theorem b_woven {f : Addr} {fd : FuncData} (F : FunD K "woven" "woven" (defArgs s_woven) (defBody s_woven) (defScope s_woven) [] [] f fd) : Binds K fd ["by", "moments", "spans", "ties"] [] := F.bindsN fun _ _ _ _ _ _ us hl => match us, hl with | [_, _, _, _], _ => rfl
theorem f_is_begin (T : Tp K mg) : ∃ fd, FunD K "is_begin" "is_begin" (defArgs s_is_begin) (defBody s_is_begin) (defScope s_is_begin) [] [] (He.ga K "is_begin") fd := T.c.def_ 17 (d := d_is_begin) rfl
theorem b_is_begin {f : Addr} {fd : FuncData} (F : FunD K "is_begin" "is_begin" (defArgs s_is_begin) (defBody s_is_begin) (defScope s_is_begin) [] [] f fd) : Binds K fd ["web", "name"] [] := F.bindsN fun _ _ _ _ _ _ us hl => match us, hl with | [_, _], _ => rfl
theorem f_are_lengths (T : Tp K mg) : ∃ fd, FunD K "are_lengths" "are_lengths" (defArgs s_are_lengths) (defBody s_are_lengths) (defScope s_are_lengths) [] [] (He.ga K "are_lengths") fd := T.c.def_ 18 (d := d_are_lengths) rfl
theorem b_are_lengths {f : Addr} {fd : FuncData} (F : FunD K "are_lengths" "are_lengths" (defArgs s_are_lengths) (defBody s_are_lengths) (defScope s_are_lengths) [] [] f fd) : Binds K fd ["low", "high"] [] := F.bindsN fun _ _ _ _ _ _ us hl => match us, hl with | [_, _], _ => rfl
theorem f_is_lateness (T : Tp K mg) : ∃ fd, FunD K "is_lateness" "is_lateness" (defArgs s_is_lateness) (defBody s_is_lateness) (defScope s_is_lateness) [] [] (He.ga K "is_lateness") fd := T.c.def_ 19 (d := d_is_lateness) rfl
theorem b_is_lateness {f : Addr} {fd : FuncData} (F : FunD K "is_lateness" "is_lateness" (defArgs s_is_lateness) (defBody s_is_lateness) (defScope s_is_lateness) [] [] f fd) : Binds K fd ["late"] [] := F.bindsN fun _ _ _ _ _ _ us hl => match us, hl with | [_], _ => rfl
theorem f_are_bounds (T : Tp K mg) : ∃ fd, FunD K "are_bounds" "are_bounds" (defArgs s_are_bounds) (defBody s_are_bounds) (defScope s_are_bounds) [] [] (He.ga K "are_bounds") fd := T.c.def_ 20 (d := d_are_bounds) rfl
theorem b_are_bounds {f : Addr} {fd : FuncData} (F : FunD K "are_bounds" "are_bounds" (defArgs s_are_bounds) (defBody s_are_bounds) (defScope s_are_bounds) [] [] f fd) : Binds K fd ["least", "most"] [] := F.bindsN fun _ _ _ _ _ _ us hl => match us, hl with | [_, _], _ => rfl
theorem f_need_free_name (T : Tp K mg) : ∃ fd, FunD K "need_free_name" "need_free_name" (defArgs s_need_free_name) (defBody s_need_free_name) (defScope s_need_free_name) [] [] (He.ga K "need_free_name") fd := T.c.def_ 21 (d := d_need_free_name) rfl
theorem b_need_free_name {f : Addr} {fd : FuncData} (F : FunD K "need_free_name" "need_free_name" (defArgs s_need_free_name) (defBody s_need_free_name) (defScope s_need_free_name) [] [] f fd) : Binds K fd ["web", "name"] [] := F.bindsN fun _ _ _ _ _ _ us hl => match us, hl with | [_, _], _ => rfl
theorem f_need_point (T : Tp K mg) : ∃ fd, FunD K "need_point" "need_point" (defArgs s_need_point) (defBody s_need_point) (defScope s_need_point) [] [] (He.ga K "need_point") fd := T.c.def_ 22 (d := d_need_point) rfl
theorem b_need_point {f : Addr} {fd : FuncData} (F : FunD K "need_point" "need_point" (defArgs s_need_point) (defBody s_need_point) (defScope s_need_point) [] [] f fd) : Binds K fd ["web", "name"] [] := F.bindsN fun _ _ _ _ _ _ us hl => match us, hl with | [_, _], _ => rfl
theorem f_offset (T : Tp K mg) : ∃ fd, FunD K "offset" "offset" (defArgs s_offset) (defBody s_offset) (defScope s_offset) [] [] (He.ga K "offset") fd := T.c.def_ 23 (d := d_offset) rfl
theorem b_offset {f : Addr} {fd : FuncData} (F : FunD K "offset" "offset" (defArgs s_offset) (defBody s_offset) (defScope s_offset) [] [] f fd) : Binds K fd ["web", "name"] [] := F.bindsN fun _ _ _ _ _ _ us hl => match us, hl with | [_, _], _ => rfl
theorem f_bounds (T : Tp K mg) : ∃ fd, FunD K "bounds" "bounds" (defArgs s_bounds) (defBody s_bounds) (defScope s_bounds) [] [] (He.ga K "bounds") fd := T.c.def_ 24 (d := d_bounds) rfl
theorem b_bounds {f : Addr} {fd : FuncData} (F : FunD K "bounds" "bounds" (defArgs s_bounds) (defBody s_bounds) (defScope s_bounds) [] [] f fd) : Binds K fd ["web"] [] := F.bindsN fun _ _ _ _ _ _ us hl => match us, hl with | [_], _ => rfl
theorem f_tie_bounds (T : Tp K mg) : ∃ fd, FunD K "tie_bounds" "tie_bounds" (defArgs s_tie_bounds) (defBody s_tie_bounds) (defScope s_tie_bounds) [] [] (He.ga K "tie_bounds") fd := T.c.def_ 25 (d := d_tie_bounds) rfl
theorem b_tie_bounds {f : Addr} {fd : FuncData} (F : FunD K "tie_bounds" "tie_bounds" (defArgs s_tie_bounds) (defBody s_tie_bounds) (defScope s_tie_bounds) [] [] f fd) : Binds K fd ["web", "tie"] [] := F.bindsN fun _ _ _ _ _ _ us hl => match us, hl with | [_, _], _ => rfl
theorem f_heard_spans (T : Tp K mg) : ∃ fd, FunD K "heard_spans" "heard_spans" (defArgs s_heard_spans) (defBody s_heard_spans) (defScope s_heard_spans) [] [] (He.ga K "heard_spans") fd := T.c.def_ 26 (d := d_heard_spans) rfl
theorem b_heard_spans {f : Addr} {fd : FuncData} (F : FunD K "heard_spans" "heard_spans" (defArgs s_heard_spans) (defBody s_heard_spans) (defScope s_heard_spans) [] [] f fd) : Binds K fd ["web"] [] := F.bindsN fun _ _ _ _ _ _ us hl => match us, hl with | [_], _ => rfl
theorem f_heard_begins (T : Tp K mg) : ∃ fd, FunD K "heard_begins" "heard_begins" (defArgs s_heard_begins) (defBody s_heard_begins) (defScope s_heard_begins) [] [] (He.ga K "heard_begins") fd := T.c.def_ 27 (d := d_heard_begins) rfl
theorem b_heard_begins {f : Addr} {fd : FuncData} (F : FunD K "heard_begins" "heard_begins" (defArgs s_heard_begins) (defBody s_heard_begins) (defScope s_heard_begins) [] [] f fd) : Binds K fd ["web"] [] := F.bindsN fun _ _ _ _ _ _ us hl => match us, hl with | [_], _ => rfl
theorem f_late_waits (T : Tp K mg) : ∃ fd, FunD K "late_waits" "late_waits" (defArgs s_late_waits) (defBody s_late_waits) (defScope s_late_waits) [] [] (He.ga K "late_waits") fd := T.c.def_ 28 (d := d_late_waits) rfl
theorem b_late_waits {f : Addr} {fd : FuncData} (F : FunD K "late_waits" "late_waits" (defArgs s_late_waits) (defBody s_late_waits) (defScope s_late_waits) [] [] f fd) : Binds K fd ["web"] [] := F.bindsN fun _ _ _ _ _ _ us hl => match us, hl with | [_], _ => rfl
theorem f_along (T : Tp K mg) : ∃ fd, FunD K "along" "along" (defArgs s_along) (defBody s_along) (defScope s_along) [] [] (He.ga K "along") fd := T.c.def_ 29 (d := d_along) rfl
theorem b_along {f : Addr} {fd : FuncData} (F : FunD K "along" "along" (defArgs s_along) (defBody s_along) (defScope s_along) [] [] f fd) : Binds K fd ["one", "other"] [] := F.bindsN fun _ _ _ _ _ _ us hl => match us, hl with | [_, _], _ => rfl
theorem f_wait (T : Tp K mg) : ∃ fd, FunD K "wait" "wait" (defArgs s_wait) (defBody s_wait) (defScope s_wait) [] [] (He.ga K "wait") fd := T.c.def_ 30 (d := d_wait) rfl
theorem b_wait {f : Addr} {fd : FuncData} (F : FunD K "wait" "wait" (defArgs s_wait) (defBody s_wait) (defScope s_wait) [] [] f fd) : Binds K fd ["one", "other"] [] := F.bindsN fun _ _ _ _ _ _ us hl => match us, hl with | [_, _], _ => rfl
theorem f_sure (T : Tp K mg) : ∃ fd, FunD K "sure" "sure" (defArgs s_sure) (defBody s_sure) (defScope s_sure) [] [] (He.ga K "sure") fd := T.c.def_ 31 (d := d_sure) rfl
theorem b_sure {f : Addr} {fd : FuncData} (F : FunD K "sure" "sure" (defArgs s_sure) (defBody s_sure) (defScope s_sure) [] [] f fd) : Binds K fd ["heard", "one"] [] := F.bindsN fun _ _ _ _ _ _ us hl => match us, hl with | [_, _], _ => rfl
theorem f_soon (T : Tp K mg) : ∃ fd, FunD K "soon" "soon" (defArgs s_soon) (defBody s_soon) (defScope s_soon) [] [] (He.ga K "soon") fd := T.c.def_ 32 (d := d_soon) rfl
theorem b_soon {f : Addr} {fd : FuncData} (F : FunD K "soon" "soon" (defArgs s_soon) (defBody s_soon) (defScope s_soon) [] [] f fd) : Binds K fd ["heard", "one"] [] := F.bindsN fun _ _ _ _ _ _ us hl => match us, hl with | [_, _], _ => rfl
theorem f_ahead (T : Tp K mg) : ∃ fd, FunD K "ahead" "ahead" (defArgs s_ahead) (defBody s_ahead) (defScope s_ahead) [] [] (He.ga K "ahead") fd := T.c.def_ 33 (d := d_ahead) rfl
theorem b_ahead {f : Addr} {fd : FuncData} (F : FunD K "ahead" "ahead" (defArgs s_ahead) (defBody s_ahead) (defScope s_ahead) [] [] f fd) : Binds K fd ["heard", "one"] [] := F.bindsN fun _ _ _ _ _ _ us hl => match us, hl with | [_, _], _ => rfl
theorem f_meaning (T : Tp K mg) : ∃ fd, FunD K "meaning" "meaning" (defArgs s_meaning) (defBody s_meaning) (defScope s_meaning) [] [] (He.ga K "meaning") fd := T.c.def_ 34 (d := d_meaning) rfl
theorem b_meaning {f : Addr} {fd : FuncData} (F : FunD K "meaning" "meaning" (defArgs s_meaning) (defBody s_meaning) (defScope s_meaning) [] [] f fd) : Binds K fd ["web", "rows"] [] := F.bindsN fun _ _ _ _ _ _ us hl => match us, hl with | [_, _], _ => rfl
theorem f_told_fact (T : Tp K mg) : ∃ fd, FunD K "told_fact" "told_fact" (defArgs s_told_fact) (defBody s_told_fact) (defScope s_told_fact) [] [] (He.ga K "told_fact") fd := T.c.def_ 35 (d := d_told_fact) rfl
theorem b_told_fact {f : Addr} {fd : FuncData} (F : FunD K "told_fact" "told_fact" (defArgs s_told_fact) (defBody s_told_fact) (defScope s_told_fact) [] [] f fd) : Binds K fd ["told", "row"] [] := F.bindsN fun _ _ _ _ _ _ us hl => match us, hl with | [_, _], _ => rfl
theorem f_late_fact (T : Tp K mg) : ∃ fd, FunD K "late_fact" "late_fact" (defArgs s_late_fact) (defBody s_late_fact) (defScope s_late_fact) [] [] (He.ga K "late_fact") fd := T.c.def_ 36 (d := d_late_fact) rfl
theorem b_late_fact {f : Addr} {fd : FuncData} (F : FunD K "late_fact" "late_fact" (defArgs s_late_fact) (defBody s_late_fact) (defScope s_late_fact) [] [] f fd) : Binds K fd ["lates", "row"] [] := F.bindsN fun _ _ _ _ _ _ us hl => match us, hl with | [_, _], _ => rfl
theorem f_made_fact (T : Tp K mg) : ∃ fd, FunD K "made_fact" "made_fact" (defArgs s_made_fact) (defBody s_made_fact) (defScope s_made_fact) [] [] (He.ga K "made_fact") fd := T.c.def_ 37 (d := d_made_fact) rfl
theorem b_made_fact {f : Addr} {fd : FuncData} (F : FunD K "made_fact" "made_fact" (defArgs s_made_fact) (defBody s_made_fact) (defScope s_made_fact) [] [] f fd) : Binds K fd ["heard", "facts", "row"] [] := F.bindsN fun _ _ _ _ _ _ us hl => match us, hl with | [_, _, _], _ => rfl
theorem f_paper_fits (T : Tp K mg) : ∃ fd, FunD K "paper_fits" "paper_fits" (defArgs s_paper_fits) (defBody s_paper_fits) (defScope s_paper_fits) [] [] (He.ga K "paper_fits") fd := T.c.def_ 38 (d := d_paper_fits) rfl
theorem b_paper_fits {f : Addr} {fd : FuncData} (F : FunD K "paper_fits" "paper_fits" (defArgs s_paper_fits) (defBody s_paper_fits) (defScope s_paper_fits) [] [] f fd) : Binds K fd ["web", "paper"] [] := F.bindsN fun _ _ _ _ _ _ us hl => match us, hl with | [_, _], _ => rfl
theorem f__law_flow (T : Tp K mg) : ∃ fd, FunD K "_law_flow" "_law_flow" (defArgs s__law_flow) (defBody s__law_flow) (defScope s__law_flow) [] [] (He.ga K "_law_flow") fd := T.c.def_ 39 (d := d__law_flow) rfl
theorem b__law_flow {f : Addr} {fd : FuncData} (F : FunD K "_law_flow" "_law_flow" (defArgs s__law_flow) (defBody s__law_flow) (defScope s__law_flow) [] [] f fd) : Binds K fd ["_law_script"] [] := F.bindsN fun _ _ _ _ _ _ us hl => match us, hl with | [_], _ => rfl
theorem f__law_draw (T : Tp K mg) : ∃ fd, FunD K "_law_draw" "_law_draw" (defArgs s__law_draw) (defBody s__law_draw) (defScope s__law_draw) [] [] (He.ga K "_law_draw") fd := T.c.def_ 40 (d := d__law_draw) rfl
theorem b__law_draw {f : Addr} {fd : FuncData} (F : FunD K "_law_draw" "_law_draw" (defArgs s__law_draw) (defBody s__law_draw) (defScope s__law_draw) [] [] f fd) : Binds K fd ["_law_flow_here", "_law_size"] [] := F.bindsN fun _ _ _ _ _ _ us hl => match us, hl with | [_, _], _ => rfl
theorem f__law_pick (T : Tp K mg) : ∃ fd, FunD K "_law_pick" "_law_pick" (defArgs s__law_pick) (defBody s__law_pick) (defScope s__law_pick) [] [] (He.ga K "_law_pick") fd := T.c.def_ 41 (d := d__law_pick) rfl
theorem b__law_pick {f : Addr} {fd : FuncData} (F : FunD K "_law_pick" "_law_pick" (defArgs s__law_pick) (defBody s__law_pick) (defScope s__law_pick) [] [] f fd) : Binds K fd ["_law_flow_here", "_law_row"] [] := F.bindsN fun _ _ _ _ _ _ us hl => match us, hl with | [_, _], _ => rfl
theorem f__law_same (T : Tp K mg) : ∃ fd, FunD K "_law_same" "_law_same" (defArgs s__law_same) (defBody s__law_same) (defScope s__law_same) [] [] (He.ga K "_law_same") fd := T.c.def_ 42 (d := d__law_same) rfl
theorem b__law_same {f : Addr} {fd : FuncData} (F : FunD K "_law_same" "_law_same" (defArgs s__law_same) (defBody s__law_same) (defScope s__law_same) [] [] f fd) : Binds K fd ["_law_found", "_law_due"] [] := F.bindsN fun _ _ _ _ _ _ us hl => match us, hl with | [_, _], _ => rfl
theorem f__law_names (T : Tp K mg) : ∃ fd, FunD K "_law_names" "_law_names" (defArgs s__law_names) (defBody s__law_names) (defScope s__law_names) [] [] (He.ga K "_law_names") fd := T.c.def_ 43 (d := d__law_names) rfl
theorem b__law_names {f : Addr} {fd : FuncData} (F : FunD K "_law_names" "_law_names" (defArgs s__law_names) (defBody s__law_names) (defScope s__law_names) [] [] f fd) : Binds K fd ["_law_flow_here", "_law_many"] [] := F.bindsN fun _ _ _ _ _ _ us hl => match us, hl with | [_, _], _ => rfl
theorem f__law_model (T : Tp K mg) : ∃ fd, FunD K "_law_model" "_law_model" (defArgs s__law_model) (defBody s__law_model) (defScope s__law_model) [] [] (He.ga K "_law_model") fd := T.c.def_ 44 (d := d__law_model) rfl
theorem b__law_model {f : Addr} {fd : FuncData} (F : FunD K "_law_model" "_law_model" (defArgs s__law_model) (defBody s__law_model) (defScope s__law_model) [] [] f fd) : Binds K fd ["_law_last"] [] := F.bindsN fun _ _ _ _ _ _ us hl => match us, hl with | [_], _ => rfl
theorem f__law_points (T : Tp K mg) : ∃ fd, FunD K "_law_points" "_law_points" (defArgs s__law_points) (defBody s__law_points) (defScope s__law_points) [] [] (He.ga K "_law_points") fd := T.c.def_ 45 (d := d__law_points) rfl
theorem b__law_points {f : Addr} {fd : FuncData} (F : FunD K "_law_points" "_law_points" (defArgs s__law_points) (defBody s__law_points) (defScope s__law_points) [] [] f fd) : Binds K fd ["_law_m"] [] := F.bindsN fun _ _ _ _ _ _ us hl => match us, hl with | [_], _ => rfl
theorem f__law_web (T : Tp K mg) : ∃ fd, FunD K "_law_web" "_law_web" (defArgs s__law_web) (defBody s__law_web) (defScope s__law_web) [] [] (He.ga K "_law_web") fd := T.c.def_ 46 (d := d__law_web) rfl
theorem b__law_web {f : Addr} {fd : FuncData} (F : FunD K "_law_web" "_law_web" (defArgs s__law_web) (defBody s__law_web) (defScope s__law_web) [] [] f fd) : Binds K fd ["_law_m"] [] := F.bindsN fun _ _ _ _ _ _ us hl => match us, hl with | [_], _ => rfl
theorem f__law_wind (T : Tp K mg) : ∃ fd, FunD K "_law_wind" "_law_wind" (defArgs s__law_wind) (defBody s__law_wind) (defScope s__law_wind) [] [] (He.ga K "_law_wind") fd := T.c.def_ 47 (d := d__law_wind) rfl
theorem b__law_wind {f : Addr} {fd : FuncData} (F : FunD K "_law_wind" "_law_wind" (defArgs s__law_wind) (defBody s__law_wind) (defScope s__law_wind) [] [] f fd) : Binds K fd ["_law_flow_here", "_law_end", "_law_own", "_law_far"] [] := F.bindsN fun _ _ _ _ _ _ us hl => match us, hl with | [_, _, _, _], _ => rfl
theorem f__law_bond (T : Tp K mg) : ∃ fd, FunD K "_law_bond" "_law_bond" (defArgs s__law_bond) (defBody s__law_bond) (defScope s__law_bond) [] [] (He.ga K "_law_bond") fd := T.c.def_ 48 (d := d__law_bond) rfl
theorem b__law_bond {f : Addr} {fd : FuncData} (F : FunD K "_law_bond" "_law_bond" (defArgs s__law_bond) (defBody s__law_bond) (defScope s__law_bond) [] [] f fd) : Binds K fd ["_law_flow_here", "_law_points_here", "_law_far"] [] := F.bindsN fun _ _ _ _ _ _ us hl => match us, hl with | [_, _, _], _ => rfl
theorem f__law_drawn (T : Tp K mg) : ∃ fd, FunD K "_law_drawn" "_law_drawn" (defArgs s__law_drawn) (defBody s__law_drawn) (defScope s__law_drawn) [] [] (He.ga K "_law_drawn") fd := T.c.def_ 49 (d := d__law_drawn) rfl
theorem b__law_drawn {f : Addr} {fd : FuncData} (F : FunD K "_law_drawn" "_law_drawn" (defArgs s__law_drawn) (defBody s__law_drawn) (defScope s__law_drawn) [] [] f fd) : Binds K fd ["_law_flow_here", "_law_own", "_law_winds", "_law_bonds", "_law_far", "_law_last"] [] := F.bindsN fun _ _ _ _ _ _ us hl => match us, hl with | [_, _, _, _, _, _], _ => rfl
theorem f__law_stands (T : Tp K mg) : ∃ fd, FunD K "_law_stands" "_law_stands" (defArgs s__law_stands) (defBody s__law_stands) (defScope s__law_stands) [] [] (He.ga K "_law_stands") fd := T.c.def_ 50 (d := d__law_stands) rfl
theorem b__law_stands {f : Addr} {fd : FuncData} (F : FunD K "_law_stands" "_law_stands" (defArgs s__law_stands) (defBody s__law_stands) (defScope s__law_stands) [] [] f fd) : Binds K fd ["_law_web_here", "_law_m"] [] := F.bindsN fun _ _ _ _ _ _ us hl => match us, hl with | [_, _], _ => rfl
theorem f__law_whole (T : Tp K mg) : ∃ fd, FunD K "_law_whole" "_law_whole" (defArgs s__law_whole) (defBody s__law_whole) (defScope s__law_whole) [] [] (He.ga K "_law_whole") fd := T.c.def_ 51 (d := d__law_whole) rfl
theorem b__law_whole {f : Addr} {fd : FuncData} (F : FunD K "_law_whole" "_law_whole" (defArgs s__law_whole) (defBody s__law_whole) (defScope s__law_whole) [] [] f fd) : Binds K fd ["_law_thing", "_law_low", "_law_high"] [] := F.bindsN fun _ _ _ _ _ _ us hl => match us, hl with | [_, _, _], _ => rfl
theorem f__law_field (T : Tp K mg) : ∃ fd, FunD K "_law_field" "_law_field" (defArgs s__law_field) (defBody s__law_field) (defScope s__law_field) [] [] (He.ga K "_law_field") fd := T.c.def_ 52 (d := d__law_field) rfl
theorem b__law_field {f : Addr} {fd : FuncData} (F : FunD K "_law_field" "_law_field" (defArgs s__law_field) (defBody s__law_field) (defScope s__law_field) [] [] f fd) : Binds K fd ["_law_ask"] [] := F.bindsN fun _ _ _ _ _ _ us hl => match us, hl with | [_], _ => rfl
theorem f__law_heard (T : Tp K mg) : ∃ fd, FunD K "_law_heard" "_law_heard" (defArgs s__law_heard) (defBody s__law_heard) (defScope s__law_heard) [] [] (He.ga K "_law_heard") fd := T.c.def_ 53 (d := d__law_heard) rfl
theorem b__law_heard {f : Addr} {fd : FuncData} (F : FunD K "_law_heard" "_law_heard" (defArgs s__law_heard) (defBody s__law_heard) (defScope s__law_heard) [] [] f fd) : Binds K fd ["_law_m"] [] := F.bindsN fun _ _ _ _ _ _ us hl => match us, hl with | [_], _ => rfl
theorem f__law_offset (T : Tp K mg) : ∃ fd, FunD K "_law_offset" "_law_offset" (defArgs s__law_offset) (defBody s__law_offset) (defScope s__law_offset) [] [] (He.ga K "_law_offset") fd := T.c.def_ 54 (d := d__law_offset) rfl
theorem b__law_offset {f : Addr} {fd : FuncData} (F : FunD K "_law_offset" "_law_offset" (defArgs s__law_offset) (defBody s__law_offset) (defScope s__law_offset) [] [] f fd) : Binds K fd ["_law_m", "_law_name"] [] := F.bindsN fun _ _ _ _ _ _ us hl => match us, hl with | [_, _], _ => rfl
theorem f__law_bounds (T : Tp K mg) : ∃ fd, FunD K "_law_bounds" "_law_bounds" (defArgs s__law_bounds) (defBody s__law_bounds) (defScope s__law_bounds) [] [] (He.ga K "_law_bounds") fd := T.c.def_ 55 (d := d__law_bounds) rfl
theorem b__law_bounds {f : Addr} {fd : FuncData} (F : FunD K "_law_bounds" "_law_bounds" (defArgs s__law_bounds) (defBody s__law_bounds) (defScope s__law_bounds) [] [] f fd) : Binds K fd ["_law_m"] [] := F.bindsN fun _ _ _ _ _ _ us hl => match us, hl with | [_], _ => rfl
theorem f__law_read_pair (T : Tp K mg) : ∃ fd, FunD K "_law_read_pair" "_law_read_pair" (defArgs s__law_read_pair) (defBody s__law_read_pair) (defScope s__law_read_pair) [] [] (He.ga K "_law_read_pair") fd := T.c.def_ 56 (d := d__law_read_pair) rfl
theorem b__law_read_pair {f : Addr} {fd : FuncData} (F : FunD K "_law_read_pair" "_law_read_pair" (defArgs s__law_read_pair) (defBody s__law_read_pair) (defScope s__law_read_pair) [] [] f fd) : Binds K fd ["_law_m", "_law_word", "_law_one", "_law_two"] [] := F.bindsN fun _ _ _ _ _ _ us hl => match us, hl with | [_, _, _, _], _ => rfl
theorem f__law_read_one (T : Tp K mg) : ∃ fd, FunD K "_law_read_one" "_law_read_one" (defArgs s__law_read_one) (defBody s__law_read_one) (defScope s__law_read_one) [] [] (He.ga K "_law_read_one") fd := T.c.def_ 57 (d := d__law_read_one) rfl
theorem b__law_read_one {f : Addr} {fd : FuncData} (F : FunD K "_law_read_one" "_law_read_one" (defArgs s__law_read_one) (defBody s__law_read_one) (defScope s__law_read_one) [] [] f fd) : Binds K fd ["_law_m", "_law_word", "_law_one"] [] := F.bindsN fun _ _ _ _ _ _ us hl => match us, hl with | [_, _, _], _ => rfl
theorem f__law_read_row (T : Tp K mg) : ∃ fd, FunD K "_law_read_row" "_law_read_row" (defArgs s__law_read_row) (defBody s__law_read_row) (defScope s__law_read_row) [] [] (He.ga K "_law_read_row") fd := T.c.def_ 58 (d := d__law_read_row) rfl
theorem b__law_read_row {f : Addr} {fd : FuncData} (F : FunD K "_law_read_row" "_law_read_row" (defArgs s__law_read_row) (defBody s__law_read_row) (defScope s__law_read_row) [] [] f fd) : Binds K fd ["_law_m", "_law_made", "_law_row"] [] := F.bindsN fun _ _ _ _ _ _ us hl => match us, hl with | [_, _, _], _ => rfl
theorem f__law_read_rows (T : Tp K mg) : ∃ fd, FunD K "_law_read_rows" "_law_read_rows" (defArgs s__law_read_rows) (defBody s__law_read_rows) (defScope s__law_read_rows) [] [] (He.ga K "_law_read_rows") fd := T.c.def_ 59 (d := d__law_read_rows) rfl
theorem b__law_read_rows {f : Addr} {fd : FuncData} (F : FunD K "_law_read_rows" "_law_read_rows" (defArgs s__law_read_rows) (defBody s__law_read_rows) (defScope s__law_read_rows) [] [] f fd) : Binds K fd ["_law_m", "_law_rows"] [] := F.bindsN fun _ _ _ _ _ _ us hl => match us, hl with | [_, _], _ => rfl
theorem f__law_new_row (T : Tp K mg) : ∃ fd, FunD K "_law_new_row" "_law_new_row" (defArgs s__law_new_row) (defBody s__law_new_row) (defScope s__law_new_row) [] [] (He.ga K "_law_new_row") fd := T.c.def_ 60 (d := d__law_new_row) rfl
theorem b__law_new_row {f : Addr} {fd : FuncData} (F : FunD K "_law_new_row" "_law_new_row" (defArgs s__law_new_row) (defBody s__law_new_row) (defScope s__law_new_row) [] [] f fd) : Binds K fd ["_law_flow_here", "_law_m", "_law_made"] [] := F.bindsN fun _ _ _ _ _ _ us hl => match us, hl with | [_, _, _], _ => rfl
theorem f__law_some_rows (T : Tp K mg) : ∃ fd, FunD K "_law_some_rows" "_law_some_rows" (defArgs s__law_some_rows) (defBody s__law_some_rows) (defScope s__law_some_rows) [] [] (He.ga K "_law_some_rows") fd := T.c.def_ 61 (d := d__law_some_rows) rfl
theorem b__law_some_rows {f : Addr} {fd : FuncData} (F : FunD K "_law_some_rows" "_law_some_rows" (defArgs s__law_some_rows) (defBody s__law_some_rows) (defScope s__law_some_rows) [] [] f fd) : Binds K fd ["_law_flow_here", "_law_m", "_law_many"] [] := F.bindsN fun _ _ _ _ _ _ us hl => match us, hl with | [_, _, _], _ => rfl
theorem f__law_bent_row (T : Tp K mg) : ∃ fd, FunD K "_law_bent_row" "_law_bent_row" (defArgs s__law_bent_row) (defBody s__law_bent_row) (defScope s__law_bent_row) [] [] (He.ga K "_law_bent_row") fd := T.c.def_ 62 (d := d__law_bent_row) rfl
theorem b__law_bent_row {f : Addr} {fd : FuncData} (F : FunD K "_law_bent_row" "_law_bent_row" (defArgs s__law_bent_row) (defBody s__law_bent_row) (defScope s__law_bent_row) [] [] f fd) : Binds K fd ["_law_flow_here", "_law_row"] [] := F.bindsN fun _ _ _ _ _ _ us hl => match us, hl with | [_, _], _ => rfl
theorem f_law (T : Tp K mg) : ∃ fd, FunD K "law" "law" (defArgs s_law) (defBody s_law) (defScope s_law) [] [] (He.ga K "law") fd := T.c.def_ 63 (d := d_law) rfl
theorem b_law {f : Addr} {fd : FuncData} (F : FunD K "law" "law" (defArgs s_law) (defBody s_law) (defScope s_law) [] [] f fd) : Binds K fd ["_law_script"] [] := F.bindsN fun _ _ _ _ _ _ us hl => match us, hl with | [_], _ => rfl
end
/-! the head -/
def loose0 : List PySem.Str := ["_wall", "__name__", "LETTERS", "LONGEST_NAME", "is_number", "is_whole", "is_one_of", "is_name", "TideError", "BadBy", "BadName", "Taken", "Full", "BadLength", "BadLate", "BadTie", "Used", "BadPaper", "BadKeeper", "BadPlan", "BadText", "BadDeed", "Unsteered", "Missing", "NoMoment", "NoPoint", "NoSpan", "NoTie", "NoDeed", "RunFault"]
def loose1 : List PySem.Str := ["Done", "TooEarly", "TooLate", "Unbegun", "Unheard", "BadNews", "Over", "NothingBack", "BY", "START", "MOST_BY", "MOST_MOMENTS", "MOST_SPANS", "MOST_TIES", "MOST_LENGTH", "MOST_LATE", "MOST_BOUND", "Web", "woven", "is_begin", "are_lengths", "is_lateness", "are_bounds", "need_free_name", "need_point", "offset", "bounds", "tie_bounds", "heard_spans", "MOST"]
def loose2 : List PySem.Str := ["UNTIL", "heard_begins", "late_waits", "along", "wait", "sure", "soon", "ahead", "PAIR_RULES", "SINGLE_RULES", "meaning", "told_fact", "late_fact", "made_fact", "paper_fits", "is_ring", "arrow", "_law_flow", "_law_draw", "_law_pick", "_law_same", "_law_names", "_law_model", "_law_points", "_law_web", "_law_wind", "_law_bond", "_law_drawn", "_law_stands", "_law_whole"]
def loose3 : List PySem.Str := ["_law_field", "_law_heard", "_law_offset", "_law_bounds", "_law_read_pair", "_law_read_one", "_law_read_row", "_law_read_rows", "_law_new_row", "_law_some_rows", "_law_bent_row"]
def loose : List PySem.Str := loose0 ++ loose1 ++ loose2 ++ loose3
abbrev R : PySem.W.OpenRow := PySem.W.OpenLaw.row PySem.Challenge.rw_tidewaiter_k15_made_rows_refused
def tf : List He.Defn := [("law", none)]
def want0 : List PySem.Str := ["Web", "PAIR_RULES", "SINGLE_RULES", "TideError", "BadPaper", "is_number", "is_whole", "is_one_of", "is_name", "woven", "is_begin", "are_lengths", "is_lateness", "are_bounds", "need_free_name", "need_point", "offset", "bounds", "tie_bounds", "heard_spans", "heard_begins", "late_waits", "along", "wait", "sure", "soon", "ahead", "meaning", "told_fact", "late_fact"]
def want1 : List PySem.Str := ["made_fact", "paper_fits", "_law_flow", "_law_draw", "_law_pick", "_law_same", "_law_names", "_law_model", "_law_points", "_law_web", "_law_wind", "_law_bond", "_law_drawn", "_law_stands", "_law_whole", "_law_field", "_law_heard", "_law_offset", "_law_bounds", "_law_read_pair", "_law_read_one", "_law_read_row", "_law_read_rows", "_law_new_row", "_law_some_rows", "_law_bent_row", "law"]
def want2 : List PySem.Str := []
def want : List PySem.Str × List PySem.Str := (want0 ++ (want1 ++ want2), ["BadBy", "BadDeed", "BadName", "Taken", "Used", "Full", "BadLength", "BadLate", "BadTie", "NoMoment", "NoPoint", "NoSpan", "NoTie", "NoDeed", "Done", "Unbegun", "Unheard", "TooEarly", "TooLate", "BadNews", "BadKeeper", "Over", "BadText", "BadPlan", "Unsteered", "NothingBack"])
def tb : List He.Tab := [((fun K => He.ga K "PAIR_RULES"), ["along", "wait"]), ((fun K => He.ga K "SINGLE_RULES"), ["sure", "soon", "ahead"])]
abbrev hk : PySem.W.Hook := hookW 3 want fa fn tf ex tb
def ob (s : PySem.W.SharedT) : AlW := obsW 3 want fa fn tf ex tb (HandSHeadRun.getT s)
theorem ob_eq (s : PySem.W.SharedT) : ob s = hk.obs s.abs := obsW_eq (HandSHeadRun.getT_eq s)
abbrev lawAt : Nat := 107
end Tw

set_option maxHeartbeats 0
namespace Tw
open PySem PySem.Spec PyProof.Rows L2
/-! a top that fills a dict asks the world one question: both answers, each in two parts -/
abbrev Rn (w : World) : Prop := HandSHeadRun.RunEq R (PySem.W.view R.prog [lawAt]) hk ob 30000 loose w
abbrev wB (w : World) (b : Bool) : World := w.withFollow "special-get-raises" b
noncomputable abbrev en (w : World) (os : OsState) : Option PySem.W.SharedT := HandSHeadRun.endF (HandSHeadRun.stepQ (HandSHeadRun.denQ HandSHeadRun.tabQ) R.prog w) 30000 R.prog w os
abbrev L1 (w : World) (os : OsState) : Prop := (en w os).map (fun s => (HandSHeadRun.looksF R.prog (PySem.W.boot_heap w.params) s.abs, HandSHeadRun.seenQ (PySem.W.view R.prog [lawAt]) loose (importedModules R.prog.main.body) (fun s => PySem.W.xlAt (PySem.W.view R.prog [lawAt]) [] s && PySem.W.recOk R.records s) s.abs)) = some (true, PySem.W.openGood (PySem.W.view R.prog [lawAt]) loose)
abbrev L2' (w : World) (os : OsState) : Prop := (en w os).map ob = some (hk.val w)
theorem no1 (w : World) (os : OsState) : L1 (wB w false) os := by kernel_rfl
theorem no2 (w : World) (os : OsState) : L2' (wB w false) os := by kernel_rfl
theorem yes1 (w : World) (os : OsState) : L1 (wB w true) os := by kernel_rfl
theorem yes2 (w : World) (os : OsState) : L2' (wB w true) os := by kernel_rfl
theorem run (w : World) : Rn w := PySem.W.byRow2 "special-get-raises" (P := Rn) (fun w os => three_of (no1 w os) (no2 w os)) (fun w os => three_of (yes1 w os) (yes2 w os)) w
end Tw

set_option maxHeartbeats 4000000
/-! comprehensions whose block changes nothing -/
namespace Tw
open PySem PySem.Spec PyProof.Rows L2
section
variable {α β : Type} {J : It} {G : Hp → Prop} {Y : Nat → Hp → V → Hp → Prop} {g : TG} {tt : TT} {te : TE} {vs : List Nat} {σ : L2.St} {H0 : Hp} {D : Addr} {Qd : Hp → Prop}
/-- [elt for target in source if test]: as the source's items as data, f the item's own (none: left out), S what a told item is -/
theorem lc_pure (as : List α) (w : Walk J as.length G Y) (f : α → Option β) (S : Hp → V → β → Prop) (Sk : ∀ {H H' v b}, Kt H H' → S H v b → S H' v b) (nD : H0 D = none) (hn : as.length ≤ 1000) (hG : ∀ H, Same H0 H → G H)
    (hs : ∀ i a x H H', as[i]? = some a → Same H0 H → Y i H x H' → ∀ (Good : V → Hp → Prop) (Bad : Hp → Prop), (∀ y c H4, f a = some c → Same H H4 → S H4 y c → Good y H4) → (f a = none → ∀ H3, Same H H3 → Bad H3) →
      g x (wipe σ vs) H' fun σ2 H2 => wipe σ2 vs = wipe σ vs ∧ tt σ2 H2 fun b H3 => if b = true then te σ2 H3 Good else Bad H3)
    (hd : ∀ H acc, Same H0 H → H D = some (.lst acc) → Paired (S H) acc (as.filterMap f) → Qd H) :
    ∃ W : Nat → Nat → Hp → Prop, (∃ m, W 0 m (upd H0 D (.lst []))) ∧ ∀ i m H, W i m H →
      (J.stop i H ∧ Qd H) ∨ (J.go i H ∧ ∃ Nx : Hp → Prop, (∀ H', Nx H' → ∃ m', m' < m ∧ W (i + 1) m' H') ∧ ∀ x H', J.yld i H x H' → g x (wipe σ vs) H' fun σ2 H2 => wipe σ2 vs = wipe σ vs ∧ tt σ2 H2 fun b H3 =>
        if b = true then te σ2 H3 fun y H4 => ∃ acc, H4 D = some (.lst acc) ∧ acc.length < sizeLine ∧ Nx (upd H4 D (.lst (acc ++ [y]))) else Nx H3) := by
  refine lc_it w (fun i H => Same H0 H ∧ ∃ acc, H D = some (.lst acc) ∧ Paired (S H) acc ((as.take i).filterMap f)) ⟨same_upd nD, [], upd_same, .nil⟩ (fun _ H _ h => hG H h.1) ?_ ?_
  · rintro i x H H' hi ⟨s1, acc, d1, p1⟩ y
    obtain ⟨a, ea⟩ : ∃ a, as[i]? = some a := ⟨as[i], by simp [hi]⟩
    have e2 : (as.take (i + 1)).filterMap f = (as.take i).filterMap f ++ (f a).toList := by
      rw [List.take_add_one, ea, List.filterMap_append]
      cases h : f a <;> simp [List.filterMap, h]
    refine hs i a x H H' ea s1 y _ _ (fun z c H4 ec s4 hz => ⟨acc, s4 _ _ d1, ?_, ?_, acc ++ [z], upd_same, ?_⟩) (fun en H3 s3 => ⟨s1.trans s3, acc, s3 _ _ d1, ?_⟩)
    · have hl := Paired.length p1
      have h2 : ((as.take i).filterMap f).length ≤ as.length := Nat.le_trans (List.length_filterMap_le _ _) (by rw [List.length_take]; omega)
      exact small1000 (by omega)
    · intro b o e
      rw [upd_ne (ne_of_none e nD)]
      exact s4 _ _ (s1 b o e)
    · rw [e2, ec]
      have kk : Kt H4 (upd H4 D (.lst (acc ++ [z]))) := Kt.upd fun xs e => by
        rw [s4 _ _ d1] at e
        cases e
      exact Paired.snoc (Paired.mono (fun v b h => Sk kk (Sk (Kt.of s4) h)) p1) (Sk kk hz)
    · rw [e2, en]
      show Paired _ _ (_ ++ [])
      rw [List.append_nil]
      exact Paired.mono (fun v b h => Sk (Kt.of s3) h) p1
  · rintro H ⟨s1, acc, d1, p1⟩
    rw [List.take_of_length_le (Nat.le_refl _)] at p1
    exact hd H acc s1 d1 p1
end
theorem walk_listN {K : PySem.W.Frag} {a : Addr} {xs : List V} {n : Nat} (h : xs.length = n) : Walk (Itl K a) n (fun H => SqL K H a xs) (YAt xs) := h ▸ walk_list
theorem walk_tupN {K : PySem.W.Frag} {a : Addr} {xs : List V} {n : Nat} (h : xs.length = n) : Walk (Itt K a) n (fun H => SqT K H a xs) (YAt xs) := h ▸ walk_tup
theorem sl_tupK {X : Cx} {K : PySem.W.Frag} (h : X.K = K) : SlR X (rSlT K) := h ▸ sl_tup
theorem sl_listK {X : Cx} {K : PySem.W.Frag} (h : X.K = K) : SlR X (rSlL K) := h ▸ sl_list
theorem flat_bls (l : List Bool) : (l.map V.bl).all flatV = true := by
  rw [List.all_map]
  exact List.all_eq_true.mpr fun _ _ => rfl
/-- a told item that is plain -/
def SV {β : Type} (enc : β → V) : Hp → V → β → Prop := fun _ v b => v = enc b
theorem paired_enc {β : Type} {enc : β → V} {H : Hp} : ∀ {acc : List V} {bs : List β}, Paired (SV enc H) acc bs → acc = bs.map enc
  | _, _, .nil => rfl
  | _, _, .cons h t => by
    rw [List.map_cons, ← paired_enc t, ← show _ = _ from h]
/-- a told item that is a tuple -/
def SR {β : Type} (row : β → List V) : Hp → V → β → Prop := fun H v b => ∃ t, v = .ref t ∧ H t = some (.tup (row b))
theorem sr_k {β : Type} {row : β → List V} {H H' : Hp} {v : V} {b : β} (k : Kt H H') (h : SR row H v b) : SR row H' v b := by
  obtain ⟨t, e, ht⟩ := h
  exact ⟨t, e, k _ _ ht⟩
theorem paired_rows {β : Type} {row : β → List V} {H : Hp} : ∀ {acc : List V} {bs : List β}, Paired (SR row H) acc bs → Rows H acc (bs.map row)
  | _, _, .nil => .nil
  | _, _, .cons h t => .cons h (paired_rows t)
theorem rows_at {β : Type} {row : β → List V} {H : Hp} {xs : List V} {bs : List β} {i : Nat} {x : V} {b : β} (h : Rows H xs (bs.map row)) (e : xs[i]? = some x) (eb : bs[i]? = some b) : ∃ t, x = .ref t ∧ H t = some (.tup (row b)) := by
  obtain ⟨t, r, h1, h2, h3⟩ := h.at e
  rw [List.getElem?_map, eb] at h2
  cases h2
  exact ⟨t, h1, h3⟩
end Tw

set_option maxHeartbeats 4000000
/-! own exceptions in the air: none, one or two fields beside the word -/
namespace Tw
open PySem PySem.Spec PyProof.Rows L2
section
variable {P : Program} {w : World} {K : PySem.W.Frag} {mg : Str → Option Value} {base : Heap} {k : Nat} {f C : Addr} {fd : FuncData} {ps : List Str} {sp : Sp} {x m : Str}
/-- where nothing may be raised, the raising promise is a plain one -/
theorem fn_calm (F : FnOk P w K mg base (L2.CX P w) k f fd ps sp) : FnOk P w K mg base CX0 k f fd ps (fun vs H Q _ => sp vs H Q E0) :=
  ⟨fun vs H Q E h => F.len vs H Q E0 h, fun A outer s H args us vs Q E hr e0 hb r h => codeAny_mono (F.run A outer s H args us vs Q E0 hr e0 hb r h) fun r s' hq => by
    cases r with
    | error e =>
      obtain ⟨_, _, _, _, _, _, _, _, _, _, _, _, hE⟩ := hq
      exact False.elim hE
    | ok fl =>
      cases fl with
      | ret u => exact hq
      | next => exact False.elim hq
      | brk => exact False.elim hq
      | cont => exact False.elim hq⟩
theorem MetX.calm (c : MetX P w K mg base k C m sp) : Met P w K mg base k C m (fun vs H Q _ => sp vs H Q E0) :=
  let ⟨f, fd, ps, cls, me, F, b⟩ := c.ex
  ⟨f, fd, ps, [], cls, me, fn_calm F, b, .nil⟩
theorem CalX.calm (c : CalX P w K mg base k x sp) : Cal P w K mg base k x (fun vs H Q _ => sp vs H Q E0) :=
  let ⟨f, fd, ps, F, here, kept, b⟩ := c.ex
  ⟨f, fd, ps, [], fn_calm F, here, kept, b, .nil⟩
end
def OutF (H : Hp) (E : XK) (C : Addr) (fs : List (Str × V)) : Prop := ∀ (d : Addr) (H' : Hp), Same H H' → H d = none → H' d = some (.xd fs) → E (.ref C) (some d) H'
theorem OutF.same {H H1 : Hp} {E : XK} {C : Addr} {fs : List (Str × V)} (o : OutF H E C fs) (s : Same H H1) : OutF H1 E C fs := fun d H' s' n e => o d H' (s.trans s') (s.free n) e
abbrev Out0 (H : Hp) (E : XK) (C : Addr) (w : Str) : Prop := OutF H E C [(("word" : Str), .str w)]
abbrev Out (H : Hp) (E : XK) (C : Addr) (w f : Str) (v : V) : Prop := OutF H E C [(f, v), (("word" : Str), .str w)]
abbrev Out2 (H : Hp) (E : XK) (C : Addr) (w f g : Str) (v u : V) : Prop := OutF H E C [(g, u), (f, v), (("word" : Str), .str w)]
theorem Out.same {H H1 : Hp} {E : XK} {C : Addr} {w f : Str} {v : V} (o : Out H E C w f v) (s : Same H H1) : Out H1 E C w f v := OutF.same o s
def sp_miss (b : Bs) (K : PySem.W.Frag) : Sp := fun vs H Q _ => ∃ (a C : Addr) (u y : Str), vs = [.ref a, .str u, .str y] ∧ OxC b K C ∧ PySem.W.findIn K (.ref C) "word" = some none ∧ H a = some (exo a C none) ∧ u.length ≤ 100 ∧ y.length ≤ 100 ∧
  ∀ d, H d = none → d ≠ a → Q .non (upd (upd H d (exd d [(("word" : Str), .str u)])) a (exo a C (some d)))
/-- what an own exception's making leaves -/
def Made (H : Hp) (a C : Addr) (fs : List (Str × V)) (Q : VK) : Prop := ∀ (d : Addr) (H2 : Hp), H d = none → d ≠ a → (∀ b, b ≠ a → b ≠ d → H2 b = H b) → H2 a = some (exo a C (some d)) → H2 d = some (exd d fs) → Q .non H2
def sp_exc0 (K : PySem.W.Frag) (C : Addr) (u : Str) : Sp := fun vs H Q _ => ∃ (a : Addr), vs = [.ref a] ∧ H a = some (exo a C none) ∧ Made H a C [(("word" : Str), .str u)] Q
def sp_exc1 (K : PySem.W.Frag) (C : Addr) (u f : Str) : Sp := fun vs H Q _ => ∃ (a : Addr) (v : V), vs = [.ref a, v] ∧ H a = some (exo a C none) ∧ Made H a C [(f, v), (("word" : Str), .str u)] Q
def sp_exc2 (K : PySem.W.Frag) (C : Addr) (u f g : Str) : Sp := fun vs H Q _ => ∃ (a : Addr) (v z : V), vs = [.ref a, v, z] ∧ H a = some (exo a C none) ∧ Made H a C [(g, z), (f, v), (("word" : Str), .str u)] Q
theorem made_out {C a : Addr} {fs : List (Str × V)} {H : Hp} {E : XK} (h : OutF H E C fs) (na : H a = none) : Made (upd H a (exo a C none)) a C fs
    (fun x H2 => x = .non ∧ ∃ (d : Addr) (fs : List (Str × V)), H2 a = some (exo a C (some d)) ∧ H2 d = some (exd d fs) ∧ H d = none ∧ E (.ref C) (some d) (upd (del H2 a) d (.xd fs))) := by
  intro d H2 nd da k e1 e2
  have nd2 : H d = none := by
    rw [upd_ne da] at nd
    exact nd
  refine ⟨rfl, d, _, e1, e2, nd2, h d _ (fun b o hb => ?_) nd2 upd_same⟩
  have h1 : b ≠ a := ne_of_none hb na
  have h2 : b ≠ d := ne_of_none hb nd2
  rw [upd_ne h2, del_ne h1, k b h1 h2, upd_ne h1]
  exact hb
section
variable {K : PySem.W.Frag} {C : Addr} {u f g : Str} {v z : V} {H : Hp} {E : XK}
theorem mk_out0 (h : Out0 H E C u) : ([] : List V).length ≤ 1000 ∧ ∀ a, H a = none → sp_exc0 K C u (.ref a :: ([] ++ [])) (upd H a (exo a C none))
    (fun x H2 => x = .non ∧ ∃ (d : Addr) (fs : List (Str × V)), H2 a = some (exo a C (some d)) ∧ H2 d = some (exd d fs) ∧ H d = none ∧ E (.ref C) (some d) (upd (del H2 a) d (.xd fs))) (fun _ _ _ => False) :=
  ⟨by show 0 ≤ 1000; decide, fun a na => ⟨a, rfl, upd_same, made_out h na⟩⟩
theorem mk_out (h : Out H E C u f v) : ([v] : List V).length ≤ 1000 ∧ ∀ a, H a = none → sp_exc1 K C u f (.ref a :: ([v] ++ [])) (upd H a (exo a C none))
    (fun x H2 => x = .non ∧ ∃ (d : Addr) (fs : List (Str × V)), H2 a = some (exo a C (some d)) ∧ H2 d = some (exd d fs) ∧ H d = none ∧ E (.ref C) (some d) (upd (del H2 a) d (.xd fs))) (fun _ _ _ => False) :=
  ⟨by show 1 ≤ 1000; decide, fun a na => ⟨a, v, rfl, upd_same, made_out h na⟩⟩
theorem mk_out2 (h : Out2 H E C u f g v z) : ([v, z] : List V).length ≤ 1000 ∧ ∀ a, H a = none → sp_exc2 K C u f g (.ref a :: ([v, z] ++ [])) (upd H a (exo a C none))
    (fun x H2 => x = .non ∧ ∃ (d : Addr) (fs : List (Str × V)), H2 a = some (exo a C (some d)) ∧ H2 d = some (exd d fs) ∧ H d = none ∧ E (.ref C) (some d) (upd (del H2 a) d (.xd fs))) (fun _ _ _ => False) :=
  ⟨by show 2 ≤ 1000; decide, fun a na => ⟨a, v, z, rfl, upd_same, made_out h na⟩⟩
end
end Tw

set_option maxHeartbeats 4000000
/-! a lambda without parameters that a name keeps: made and stored, handed on by its name, called by its name -/
namespace Tw
open PySem PySem.Spec PyProof.Rows L2
open LamX (ExtN Tabs TabB LamS CodeO)
/-- the object of the lambda made in X -/
abbrev lamAt (X : Cx) (ps : Arguments) (b : Expr) (sc : Scope) (c' : Addr) (pm ct : Value) : Obj := PySem.W.kla_obj "<lambda>" (X.env.qual ++ "<lambda>") ps b sc (cloFrom X.env.cells sc.names []) pm c' ct
/-- the lambda at f is known in X -/
structure Kept (X : Cx) (ps : Arguments) (b : Expr) (sc : Scope) (f c' : Addr) : Prop where
  ex : ∃ pm ct, (f, lamAt X ps b sc c' pm ct) ∈ X.pn
section
variable {X : Cx} {pins : List (Addr × Obj)} {σ : L2.St} {H : Hp} {s : Shared} {ps : Arguments} {b : Expr} {sc : Scope} {f c' : Addr}
theorem pin_lam {pm ct : Value} (I : Inv X pins σ H s) (h1 : s.heap.get? f = some (lamAt X ps b sc c' pm ct)) (h2 : H f = none) (h3 : f ∉ frs X.stack) : Inv X ((f, lamAt X ps b sc c' pm ct) :: pins) σ H s := by
  have nl : f ≠ X.env.locals := by
    rintro rfl
    obtain ⟨m, ⟨o, es, ep, e1, e2, _⟩, _⟩ := I.loc
    rw [h1] at e1
    cases e1
    cases e2
  have nf : f ∉ X.fs := by
    intro hf
    refine h3 ?_
    rcases I.ok.stk with e | ⟨e, fr⟩
    · rw [e]
      exact hf
    · rw [e]
      show f ∈ List.filterMap (·.frame) (X.env :: X.outer)
      rw [List.filterMap_cons, fr]
      exact List.mem_cons_of_mem _ hf
  refine { I with pin := fun p hp => ?_ }
  rcases List.mem_append.mp hp with h | h
  · exact I.pin p (List.mem_append_left _ h)
  · rcases List.mem_cons.mp h with e | h
    · subst e
      exact ⟨h1, h2, nl, nf, fun v z => by cases z⟩
    · exact I.pin p (List.mem_append_right _ h)
theorem Kept.at (k : Kept X ps b sc f c') (I : Inv X pins σ H s) : ∃ pm ct, s.heap.get? f = some (lamAt X ps b sc c' pm ct) ∧ H f = none ∧ f ∉ frs X.stack := by
  obtain ⟨pm, ct, hm⟩ := k.ex
  obtain ⟨h1, h2, h3, h4, _⟩ := I.pin _ (List.mem_append_left _ hm)
  refine ⟨pm, ct, h1, h2, fun hf => ?_⟩
  rcases List.mem_cons.mp (I.stkSub _ hf) with e | e
  · exact h3 e
  · exact h4 e
end
section
variable {X : Cx} {ps : Arguments} {b : Expr} {sc : Scope} {T : List (Addr × Str)} {c P : Addr} {i : Nat} {x : Str} {rest : List Stmt} {u : Addr → Addr → List (Addr × Obj) → TS} {lpos pos' pos : Pos}
def tLamS (T : List (Addr × Str)) (q : Str) (i : Nat) (u : Addr → Addr → List (Addr × Obj) → TS) : TS := fun D σ H => Tabs T H ∧ ∀ (H1 : Hp) (f c' : Addr) (pn : List (Addr × Obj)), ExtN H H1 → Tabs T H1 → H1 c' = some (CodeO c' q) → u f c' pn D (σ.set i (some (.ref f))) H1
/-- x = lambda: b, and what follows -/
theorem pss_lam (hN : X.N.Nodup) (hi : X.N[i]? = some x) (hx : Loc X.env.scope x) (TB : TabB X.base X.mg c P) (hcode : X.env.code = .ref c) (hm : (P, X.env.qual ++ "<lambda>") ∈ T) (hu : ∀ p ∈ T, p.1 = P → p.2 = X.env.qual ++ "<lambda>") (L : LamS X.env.scope sc)
    (hrest : ∀ (f c' : Addr) (pn : List (Addr × Obj)), Kept (X.tr pn X.xe) ps b sc f c' → PSs (X.tr pn X.xe) rest (u f c' pn)) (hdef : defaultsOf ps X.env = ([], []) := by rfl)
    (hs : swapsWith (.Lambda ps b sc lpos) (some (.Name x pos')) pos.line X.env = pure false := by rfl) (hf : X.fn x = true ∨ X.env.scope.names.lookup x = some .local := by first | exact .inl rfl | exact .inr rfl | assumption) :
    PSs X (.Assign [.Name x pos'] (.Lambda ps b sc lpos) pos :: rest) (tLamS T (X.env.qual ++ "<lambda>") i u) := by
  constructor
  intro pins s σ H D I h
  refine wpAny_execs_cons (wpAny_Assign_Name ?_ hs)
  refine LamX.lam_make2 I TB hcode hm hu h.1 hdef (L.has I.ok) ?_
  intro f c' pm ct H1 s1 I1 e1 t1 g1 g2 g3 g4
  have J := pin_lam I1 g1 g2 g3
  refine store_ok J hN hi hx (v := .ref f) rfl (fun s2 J2 => ?_) hf
  have K2 := J2.toTry X.xe
  have kp : Kept (X.tr (X.pn ++ ((f, lamAt X ps b sc c' pm ct) :: pins)) X.xe) ps b sc f c' := ⟨pm, ct, List.mem_append_right _ List.mem_cons_self⟩
  have back : ∀ {pn' : List (Addr × Obj)} {σ' : L2.St} {H' : Hp} {s' : Shared}, Inv (X.tr (X.pn ++ ((f, lamAt X ps b sc c' pm ct) :: pins)) X.xe) pn' σ' H' s' → Inv X pins σ' H' s' := fun {pn' σ' H' s'} J' => by
    have Z := J'.ofTry (X := X) I.ok
    refine { Z with pin := fun p hp => Z.pin p ?_ }
    rcases List.mem_append.mp hp with h | h
    · exact List.mem_append_left _ h
    · exact List.mem_append_right _ (List.mem_cons_of_mem _ h)
  refine thn ((hrest f c' _ kp).run [] s2 _ H1 D K2 (h.2 H1 f c' _ e1 t1 g4)) fun fl s3 hq => ?_
  cases fl with
  | next =>
    obtain ⟨σ', H', J', q⟩ := hq
    exact ⟨σ', H', back J', q⟩
  | brk =>
    obtain ⟨σ', H', J', q⟩ := hq
    exact ⟨σ', H', back J', q⟩
  | cont =>
    obtain ⟨σ', H', J', q⟩ := hq
    exact ⟨σ', H', back J', q⟩
  | ret w =>
    obtain ⟨v, σ', H', J', r, q⟩ := hq
    exact ⟨v, σ', H', back J', r, q⟩
end
section
variable {X : Cx} {ps : Arguments} {b : Expr} {sc : Scope} {c P : Addr} {i : Nat} {x : Str} {rest : List Stmt} {u : Addr → Addr → List (Addr × Obj) → TS} {lpos pos' pos : Pos}
theorem pss_lam1 (hN : X.N.Nodup) (hi : X.N[i]? = some x) (hx : Loc X.env.scope x) (TB : TabB X.base X.mg c P) (hcode : X.env.code = .ref c) (L : LamS X.env.scope sc)
    (hrest : ∀ (f c' : Addr) (pn : List (Addr × Obj)), Kept (X.tr pn X.xe) ps b sc f c' → PSs (X.tr pn X.xe) rest (u f c' pn)) (hdef : defaultsOf ps X.env = ([], []) := by rfl)
    (hs : swapsWith (.Lambda ps b sc lpos) (some (.Name x pos')) pos.line X.env = pure false := by rfl) (hf : X.fn x = true ∨ X.env.scope.names.lookup x = some .local := by first | exact .inl rfl | exact .inr rfl | assumption) :
    PSs X (.Assign [.Name x pos'] (.Lambda ps b sc lpos) pos :: rest) (tLamS [(P, X.env.qual ++ "<lambda>")] (X.env.qual ++ "<lambda>") i u) :=
  pss_lam hN hi hx TB hcode List.mem_cons_self (fun p hp _ => by rw [List.mem_singleton.mp hp]) L hrest hdef hs hf
end
section
variable {X : Cx} {ps : Arguments} {b : Expr} {sc : Scope} {f c' : Addr} {i k : Nat} {v : Str} {p p2 pos : Pos}
def tHand (q : Str) (f c' : Addr) (i : Nat) (TT : (XK → Hp → VK → Prop) → Hp → VK → Prop) (t : XK → TE) : TE := fun σ H Q => σ[i]? = some (some (.ref f)) ∧ H c' = some (CodeO c' q) ∧ TT (fun E H' Q' => t E σ H' Q') H Q
/-- g(v), v a name that keeps a lambda -/
theorem pe_hand {TT : (XK → Hp → VK → Prop) → Hp → VK → Prop} {x a : Str} {g : Addr} {ag : Arguments} {bg : List Stmt} {sg : Scope} {dV kV doc pm cdv ct oc : Value} {an od : Option Addr} {osl : Array (Option Value)} {Ng : List Str} {t : XK → TE}
    (hg : Gl X x) (hm : X.mg x = some (.ref g)) (hk : PySem.W.keepIn X.K (.ref g) = true) (lk : X.K.lookup g = some ⟨oc, od, .func (PySem.W.fnOf x x ag bg sg dV kV doc pm an cdv ct), osl⟩) (hcg : PySem.W.codeIn X.K cdv x = true)
    (hb : L2.Binds X.K (PySem.W.fnOf x x ag bg sg dV kV doc pm an cdv ct) [a] []) (Sg : FnScope Ng [a] sg) (hNg : Ng[0]? = some a) (hva : Vis sg a) (hG : LamX.GivesTo X Ng x sg g cdv bg a (X.env.qual ++ "<lambda>") TT)
    (kp : Kept X ps b sc f c') (hN : X.N[i]? = some v) (hv : Vis X.env.scope v) (hr : Room (k + 2) X.A) (L : LamS X.env.scope sc)
    (hbind : ∀ (q : Str) (cl : List (Str × Addr)) (pm cv ctv : Value), bindArgs (PySem.W.kla_fn "<lambda>" q ps b sc cl pm cv ctv) ⟨[], []⟩ = pure [])
    (hbody : ∀ (A : Around) (outer : List Env) (s : Shared) (H : Hp) (E : XK), Room k (A.deeper (LamX.lamEnv X sc s.heap.objs.size f c')) → PE (LamX.lamCx X A outer s H E sc f c') b (t E))
    (hdb : (x == ("__debug__" : Str)) = false := by decide) (hd : (a == ("__debug__" : Str)) = false := by decide) (hcd : (a == ("__classdict__" : Str)) = false := by decide)
    (hd2 : (v == ("__debug__" : Str)) = false := by decide) (hcd2 : (v == ("__classdict__" : Str)) = false := by decide) :
    PE X (.Call (.Name x p) [.Name v p2] [] pos) (tHand (X.env.qual ++ "<lambda>") f c' i TT t) := by
  constructor
  intro pins s σ H Q I ⟨w1, w2, w3⟩
  have ev := (pe_var (pos := p2) hN hv hd2 hcd2).run pins s σ H (fun z H1 => z = .ref f ∧ H1 = H) I ⟨.ref f, w1, rfl, rfl⟩
  refine wpAny_Call_Name_kw (ld_glob I hg hm (PySem.W.callWith_K (h₀ := X.base) I.ok.mod.kin hk ?_ (by rfl) (by rfl)) hdb)
  show wpAny _ _ (spliced ((false, eval (.Name v p2) X.env) :: backTo pos (starEach [] X.env))) _ _ s
  refine Calls.spliced_cons (thn ev ?_)
  rintro val s1 ⟨z, H1, I1, rz, ez, eH⟩
  subst ez eH
  obtain rfl : val = Value.ref f := rz
  refine Calls.spliced_nil ⟨I1.kIn, ?_⟩
  obtain ⟨pm1, ct1, g1, g2, g3⟩ := kp.at I1
  refine wpAny_call (codeAny_mono (LamX.run_ofS (CX := C8.CX0) (Q := Q) (E := C8.E0) (N := Ng) (us := [.ref f]) (vs := [.ref f]) lk hcg Sg hr I1.env0 (hb s1 [.ref f] I1.kIn rfl) (.cons rfl .nil) rfl ?_) ?_)
  · intro hr'
    have act := hG f c' s1 H1 Q (fun E H' Q' => t E σ H' Q') (fun W pn xe E p1 p2 tk hW => LamX.pe_act (i := 0) I1 L g1 g2 g3 (hbind _ _ _ _ _) tk hW hr' (fun A outer s H hr2 => hbody A outer s H E hr2) hNg hva hd hcd) w2 w3
    obtain ⟨t', ht, hq⟩ := act
    exact ⟨t', ht.nox, hq⟩
  · intro r s2 hq
    match r, hq with
    | .error _, hq => exact (show False from hq).elim
    | .ok (.ret _), hq => exact I1.after hq
    | .ok .next, hq => exact False.elim hq
    | .ok .brk, hq => exact False.elim hq
    | .ok .cont, hq => exact False.elim hq
def tAct (q : Str) (f c' : Addr) (i : Nat) (t : TE) : TE := fun σ H Q => σ[i]? = some (some (.ref f)) ∧ H c' = some (CodeO c' q) ∧ t σ H Q
/-- v(), v a name that keeps a lambda; nothing is raised -/
theorem pe_act0 {t : TE} (kp : Kept X ps b sc f c') (hN : X.N[i]? = some v) (hv : Vis X.env.scope v) (hr : Room (k + 1) X.A) (L : LamS X.env.scope sc)
    (hbind : ∀ (q : Str) (cl : List (Str × Addr)) (pm cv ctv : Value), bindArgs (PySem.W.kla_fn "<lambda>" q ps b sc cl pm cv ctv) ⟨[], []⟩ = pure [])
    (hbody : ∀ (A : Around) (outer : List Env) (s : Shared) (H : Hp), Room k (A.deeper (LamX.lamEnv X sc s.heap.objs.size f c')) → PE (LamX.lamCx X A outer s H E0 sc f c') b t)
    (hd2 : (v == ("__debug__" : Str)) = false := by decide) (hcd2 : (v == ("__classdict__" : Str)) = false := by decide) : PE X (.Call (.Name v p) [] [] pos) (tAct (X.env.qual ++ "<lambda>") f c' i t) := by
  constructor
  intro pins s σ H Q I ⟨w1, w2, w3⟩
  have ev := (pe_var (pos := p) hN hv hd2 hcd2).run pins s σ H (fun z H1 => z = .ref f ∧ H1 = H) I ⟨.ref f, w1, rfl, rfl⟩
  refine wpAny_Call_Name_kw (thn ev ?_)
  rintro val s1 ⟨z, H1, I1, rz, ez, eH⟩
  subst ez eH
  obtain rfl : val = Value.ref f := rz
  obtain ⟨pm1, ct1, g1, g2, g3⟩ := kp.at I1
  obtain ⟨⟨oc, vs, tk, k1, k2, k3⟩, _, _⟩ := I1.hok c' _ w2
  refine PySem.W.callWith_F0 ⟨_, _, _, _, g1⟩ (wpAny_call (codeAny_mono (R := CR (L2.CX X.prog X.w) X.stack X.prog X.w H1 s1 Q E0) ?_ ?_))
  · refine PySem.W.kla_callFunE hr.depth g1 rfl L.co L.gen rfl ⟨c', oc, vs, tk, rfl, k1, k2, k3⟩ ?_
    rw [show ([] : List Value) ++ [] = [] from rfl, hbind]
    refine wpAny_pure (wpAny_newFunctionEnv (fun y hy => (L.own y hy).2) (fun y hy => absurd hy (by simp)) (fun h1 n1 n2 => ⟨I1.nolimit.fresh _ n2, ?_⟩) L.kind)
    have kk : ∀ a o, s1.heap.get? a = some o → h1.get? a = some o := fun a o e => n2.extBut a o (Nat.ne_of_lt (Heap.lt_size e)) (Heap.get?_push_of_some _ e)
    have J := LamX.lam_start2 (E := E0) (f := f) (c' := c') (tk := s1.toks + ([] : List (Str × Value)).length) I1 L I1.env0 hr.hd Un.refl n1 kk
    refine PySem.W.kla_codeExpr (wpAny_mono ((hbody _ _ s1 H1 (hr.deeper _)).run [] _ _ H1 Q J w3) ?_ fun e s' hq => hq)
    rintro r s' ⟨z, H', J', rz, q⟩
    exact ⟨z, H', J'.os, J'.bare, J'.base, J'.hok, rz, q⟩
  · intro r s2 hq
    match r, hq with
    | .error _, hq =>
      obtain ⟨_, _, _, _, _, _, _, _, _, _, _, _, hE⟩ := hq
      exact False.elim hE
    | .ok (.ret _), hq => exact I1.after hq
    | .ok .next, hq => exact False.elim hq
    | .ok .brk, hq => exact False.elim hq
    | .ok .cont, hq => exact False.elim hq
end
end Tw

set_option maxHeartbeats 4000000
/-! `x = {key: value for target in walk}`: a dict comprehension kept by a name -/
namespace Tw
open PySem PySem.Spec PyProof.Rows L2
section
variable {X : Cx}
/-- what the parts of a dict comprehension promise -/
structure DcB (X : Cx) (kx vx tg iter : Expr) (ifs : List Expr) (sc : Scope) (own : List (Str × Nat)) (wi : TI) (g : TG) (tt : TT) (tk tv : TE) : Prop where
  calm : X.calm = true
  nod : X.N.Nodup
  walk : PI X tg iter wi
  blk : BlkOk X.N X.env.scope sc own
  tgt : ∀ s H C cl fp, PG (X.blk s H sc (compEnvC sc cl C X.env) fp) tg g
  tst : ∀ s H C cl fp, PTs (X.blk s H sc (compEnvC sc cl C X.env) fp) ifs tt
  key : ∀ s H C cl fp, PE (X.blk s H sc (compEnvC sc cl C X.env) fp) kx tk
  val : ∀ s H C cl fp, PE (X.blk s H sc (compEnvC sc cl C X.env) fp) vx tv
  raw : ∀ x, foldedSetIterable iter X.env x = pure x := by intro _; rfl
/-- the name takes it, where it is a local of a def, on the comprehension's row, and none of its own -/
structure DcY (X : Cx) (i : Nat) (y : Str) (sc : Scope) (py pos : Pos) : Prop where
  at_ : X.N[i]? = some y
  loc : X.env.scope.names.lookup y = some .local
  fn : X.env.scope.kind = .function
  row : (py.line == pos.line) = true
  own : (sc.names.any fun (n, k) => n == y && (k == .local || k == .cell)) = false
theorem ps_dcs {i : Nat} {y : Str} {py pos spos : Pos} {kx vx tg iter : Expr} {ifs : List Expr} {sc : Scope} {own : List (Str × Nat)} {wi : TI} {g : TG} {tt : TT} {tk tv : TE} (Y : DcY X i y sc py pos) (B : DcB X kx vx tg iter ifs sc own wi g tt tk tv) :
    PS X (.Assign [.Name y py] (.DictComp kx vx [⟨tg, iter, ifs, 0⟩] sc pos) spos) (tAsg (tDc wi g tt tk tv (own.map (·.2))) (gName i)) := by
  have sw : swapsWith (.DictComp kx vx [⟨tg, iter, ifs, 0⟩] sc pos) (some (.Name y py)) spos.line X.env = pure true := by
    have e1 : (X.env.kindOf y == some .local) = true := by
      rw [show X.env.kindOf y = some .local from Y.loc]
      rfl
    have e2 : (X.env.blockKind == .function) = true := by
      unfold Env.blockKind
      rw [Y.fn]
      rfl
    show (pure (X.env.blockKind == .function && X.env.kindOf y == some .local && py.line == pos.line && !(sc.names.any fun (n, k) => n == y && (k == .local || k == .cell))) : Sem Bool) = pure true
    rw [e1, e2, Y.row, Y.own]
    rfl
  constructor
  intro pins s σ H D I h
  rw [exec_Assign_Name_used _ _ _ _ sw]
  apply wpAny_bind
  apply wpAny_standAt
  apply wpAny_bind
  refine wpAny_bind (wpAny_mono (dc_core (use := some (assign (.Name y py) X.env)) (Qf := fun _ s' => SP X pins D .next s') B.calm B.nod I B.walk B.blk B.tgt B.tst B.key B.val B.raw h ?_) (fun _ s' hq => wpAny_pure (wpAny_pure hq)) (fun _ _ hx => hx))
  intro d C s' n H' I' q ns fp
  have hm : FpOk X pins H' C := fp
  obtain ⟨m0, m1, _, m3, m4, m5⟩ := fp
  refine wpAny_assign_Name (store_ok2 (v := V.ref d) I' B.nod Y.at_ (.inl Y.loc) rfl (fun s2 I2 kept => ?_) (.inr Y.loc))
  obtain ⟨a, sb, ha⟩ := kept
  have nC : C ≠ a := by
    intro e
    rcases ha with z | z
    · exact m1 (e.trans z)
    · exact m4 y a z e.symm
  exact ⟨n, ns.sameBut sb nC, fun h3 sb3 => ⟨_, H', I2.turned (t' := s2.toks) (fun b o hb e => (sb3.2 b hb).trans e) m0 m1 m3 m4 m5, q⟩⟩
/-- a dict comprehension over any walk: what stands at D turn by turn -/
theorem dc_walk {J : It} {n : Nat} {G : Hp → Prop} {Y : Nat → Hp → V → Hp → Prop} (w : Walk J n G Y) {g : TG} {tt : TT} {tk tv : TE} {vs : List Nat} {σ : L2.St} {H1 : Hp} {D : Addr} {Qd : Hp → Prop} (Pv : Nat → Hp → Prop)
    (h0 : Pv 0 (upd H1 D (.dK []))) (hG : ∀ i H, i ≤ n → Pv i H → G H)
    (hs : ∀ i x H H', i < n → Pv i H → Y i H x H' → g x (wipe σ vs) H' fun σ2 H2 => wipe σ2 vs = wipe σ vs ∧ tt σ2 H2 fun c H3 => if c = true then tk σ2 H3 fun y H4 => tv σ2 H4 fun z H5 => ∃ kvs k, y = kV k ∧ H5 D = some (.dK kvs) ∧ kvs.length < sizeLine ∧ Pv (i + 1) (upd H5 D (.dK (putK kvs k z))) else Pv (i + 1) H3)
    (hd : ∀ H, Pv n H → Qd H) :
    ∃ W : Nat → Nat → Hp → Prop, (∃ m, W 0 m (upd H1 D (.dK []))) ∧ ∀ i m H, W i m H → (J.stop i H ∧ Qd H) ∨ (J.go i H ∧ ∃ Nx : Hp → Prop, (∀ H', Nx H' → ∃ m', m' < m ∧ W (i + 1) m' H') ∧
      ∀ x H', J.yld i H x H' → g x (wipe σ vs) H' fun σ2 H2 => wipe σ2 vs = wipe σ vs ∧ tt σ2 H2 fun c H3 => if c = true then tk σ2 H3 fun y H4 => tv σ2 H4 fun z H5 => ∃ kvs k, y = kV k ∧ H5 D = some (.dK kvs) ∧ kvs.length < sizeLine ∧ Nx (upd H5 D (.dK (putK kvs k z))) else Nx H3) := by
  refine ⟨fun i m H => i + m = n ∧ Pv i H, ⟨n, Nat.zero_add n, h0⟩, fun i m H hW => ?_⟩
  obtain ⟨e, p⟩ := hW
  cases m with
  | zero =>
    have e : i = n := e
    subst e
    exact .inl ⟨w.stops H (hG i H (Nat.le_refl i) p), hd H p⟩
  | succ m =>
    have hi : i < n := by omega
    exact .inr ⟨w.goes i H hi (hG i H (Nat.le_of_lt hi) p), Pv (i + 1), fun H' p' => ⟨m, Nat.lt_succ_self m, by omega, p'⟩, fun x H' y => hs i x H H' hi p (w.yields i H x H' hi (hG i H (Nat.le_of_lt hi) p) y)⟩
end
end Tw

set_option maxHeartbeats 4000000
namespace Tw
open PySem PySem.Spec PyProof.Rows L2
/-! tuples joined and cut: what stands at the told place -/
def rCatU : R2 := fun x y H Q => ∃ a b xs ys, x = .ref a ∧ y = .ref b ∧ H a = some (.tup xs) ∧ H b = some (.tup ys) ∧ xs.length + ys.length ≤ sizeLine ∧ ∀ p H', Same H H' → H' p = some (.tup (xs ++ ys)) → Q (.ref p) H'
theorem op_catU {X : Cx} : OpR X (binaryOp .Add) rCatU := by
  intro pins s σ H x y v u Q I rx ry h
  obtain ⟨a, b, xs, ys, rfl, rfl, ha, hb, hl, q⟩ := h
  refine op_catA pins s σ H _ _ v u Q I rx ry ⟨a, b, xs, ys, rfl, rfl, .inl (.inl ha), .inl (.inl hb), hl, fun e => ?_, fun _ e => ?_, fun _ _ p np => q p _ (same_upd np) upd_same⟩
  · exact q b H (Same.refl H) (by rw [hb, e]; rfl)
  · exact q a H (Same.refl H) (by rw [ha, e, List.append_nil])
def rSlU : V → Option Int → Option Int → Hp → VK → Prop := fun x lo hi H Q => ∃ a xs, x = .ref a ∧ H a = some (.tup xs) ∧ ∀ p H', Same H H' → H' p = some (.tup (cutV xs lo hi)) → Q (.ref p) H'
theorem sl_tupU {X : Cx} : SlR X rSlU := by
  intro pins s σ H x v vl vu lo hi sl Q I rx hs pl pu h
  obtain ⟨a, xs, rfl, ha, q⟩ := h
  refine sl_tupA pins s σ H _ v vl vu lo hi sl Q I rx hs pl pu ⟨a, xs, rfl, .inl (.inl ha), fun e => ?_, fun _ p np => q p _ (same_upd np) upd_same⟩
  refine q a H (Same.refl H) ?_
  rw [ha]
  unfold cutV
  rw [e.1, e.2, List.drop_zero, Nat.sub_zero, List.take_length]
end Tw

set_option maxHeartbeats 4000000
namespace Tw
open PySem PySem.Spec PyProof.Rows L2
theorem flat_strs (l : List Str) : (l.map V.str).all flatV = true := by
  rw [List.all_map]
  exact List.all_eq_true.mpr fun _ _ => rfl
theorem in_strs (z : Str) (l : List Str) : inV (.str z) (l.map V.str) = decide (z ∈ l) := by
  unfold inV
  rw [List.any_map]
  induction l with
  | nil => rfl
  | cons a r ih =>
    rw [List.any_cons, ih]
    have e : ((fun y => eqV y (.str z)) ∘ V.str) a = decide (z = a) := by
      show (a == z) = decide (z = a)
      by_cases h : z = a
      · subst h
        simp
      · rw [decide_eq_false h]
        exact beq_eq_false_iff_ne.mpr fun q => h q.symm
    rw [e]
    simp only [List.mem_cons]
    by_cases h : z = a <;> simp [h]
section
variable {P : Program} {w : World} {K : PySem.W.Frag} {mg : Str → Option Value} {base : Heap}
/-! ### is_number, is_whole, is_one_of -/
/-- None, a truth, an int or a text: its kind -/
def plK : V → Option String
  | .non => some "NoneType"
  | .bl _ => some "bool"
  | .int _ => some "int"
  | .str _ => some "str"
  | _ => none
theorem plK_ty {H : Hp} {v : V} {a : String} (h : plK v = some a) : TyX K H v (.type a) ∧ a ∈ kinds := by
  cases v with
  | non => cases h; exact ⟨.base .non, by decide⟩
  | bl b => cases h; exact ⟨.base (.bl _), by decide⟩
  | int i => cases h; exact ⟨.base (.int _), by decide⟩
  | str z => cases h; exact ⟨.base (.str _), by decide⟩
  | byt b => cases h
  | flt b => cases h
  | ref b => cases h
  | ty b => cases h
def numB (a : String) : Bool := kitT a "int" && !kitT a "bool"
def sp_is_number : Sp := fun vs H Q _ => ∃ (v : V) (a : String), vs = [v] ∧ plK v = some a ∧ Q (.bl (numB a)) H
theorem cal_is_number (T : Tp K mg) : Cal P w K mg base 1 "is_number" sp_is_number := by
  obtain ⟨fd, F⟩ := f_is_number T
  refine cal_of F (g_is_number T) (b_is_number F) sc_is_number (fun vs H Q E h => ?_) (fun cdv A outer s H vs Q E hr h => ?_)
  · obtain ⟨v, a, rfl, _⟩ := h
    rfl
  · obtain ⟨v, a, rfl, hk, q⟩ := h
    obtain ⟨ty, ha⟩ := plK_ty (K := K) (H := H) hk
    refine ⟨_, (pss_one (ps_ret (pe_and (pe_callB call_isK (by rfl) (z_isinstance T) bb_isinstance (pa_cons (pv 0) (pa_cons (pe_bltn (v := .ty "int") (by rfl) (z_int T) bb_int rfl) pa_nil))) (pe_one (pe_not (pe_callB call_isK (by rfl) (z_isinstance T) bb_isinstance (pa_cons (pv 0) (pa_cons (pe_bltn (v := .ty "bool") (by rfl) (z_bool T) bb_bool rfl) pa_nil)))))))), ?_⟩
    refine ⟨_, rfl, _, "int", a, rfl, ty, ha, by decide, _, rfl, ?_⟩
    unfold numB at q
    cases e : kitT a "int" with
    | true =>
      rw [e] at q
      exact iteT ⟨_, rfl, _, "bool", a, rfl, ty, ha, by decide, _, rfl, q⟩
    | false =>
      rw [e] at q
      exact iteF q
def sp_is_whole : Sp := fun vs H Q _ => ∃ (i lo hi : Int), vs = [.int i, .int lo, .int hi] ∧ Q (.bl (decide (lo ≤ i ∧ i ≤ hi))) H
theorem cal_is_whole (T : Tp K mg) : Cal P w K mg base 2 "is_whole" sp_is_whole := by
  obtain ⟨fd, F⟩ := f_is_whole T
  refine cal_of F (g_is_whole T) (b_is_whole F) sc_is_whole (fun vs H Q E h => ?_) (fun cdv A outer s H vs Q E hr h => ?_)
  · obtain ⟨i, lo, hi, rfl, _⟩ := h
    rfl
  · obtain ⟨i, lo, hi, rfl, q⟩ := h
    refine ⟨_, (pss_one (ps_ret (pe_and (C8.pe_c (cal_is_number T) hr (by decide) rfl (pa_cons (pv 0) pa_nil)) (pe_one (pe_chain op_le op_le (pv 1) (pv 0) (pv 2)))))), ?_⟩
    refine ⟨_, rfl, .int i, "int", rfl, rfl, _, rfl, ?_⟩
    refine iteT ⟨_, rfl, _, rfl, _, _, rfl, rfl, _, rfl, ite2 (fun e => ?_) (fun e => ?_)⟩
    · have e1 : lo ≤ i := of_decide_eq_true e
      refine ⟨_, rfl, _, _, rfl, rfl, ?_⟩
      have e2 : decide (lo ≤ i ∧ i ≤ hi) = decide (i ≤ hi) := by simp [e1]
      rw [e2] at q
      exact q
    · have e1 : ¬ lo ≤ i := fun z => e (decide_eq_true z)
      have e2 : decide (lo ≤ i ∧ i ≤ hi) = false := by simp [e1]
      rw [e2] at q
      exact q
/-- is_whole of any plain value -/
def whB (lo hi : Int) : V → Bool
  | .int i => decide (lo ≤ i ∧ i ≤ hi)
  | _ => false
def sp_iswh : Sp := fun vs H Q _ => ∃ (v : V) (lo hi : Int), vs = [v, .int lo, .int hi] ∧ (plK v).isSome = true ∧ Q (.bl (whB lo hi v)) H
theorem cal_iswh (T : Tp K mg) : Cal P w K mg base 2 "is_whole" sp_iswh := by
  obtain ⟨fd, F⟩ := f_is_whole T
  refine cal_of F (g_is_whole T) (b_is_whole F) sc_is_whole (fun vs H Q E h => ?_) (fun cdv A outer s H vs Q E hr h => ?_)
  · obtain ⟨v, lo, hi, rfl, _⟩ := h
    rfl
  · obtain ⟨v, lo, hi, rfl, hk, q⟩ := h
    refine ⟨_, (pss_one (ps_ret (pe_and (C8.pe_c (cal_is_number T) hr (by decide) rfl (pa_cons (pv 0) pa_nil)) (pe_one (pe_chain op_le op_le (pv 1) (pv 0) (pv 2)))))), ?_⟩
    cases v with
    | non => exact ⟨_, rfl, .non, "NoneType", rfl, rfl, _, rfl, iteF q⟩
    | bl b => exact ⟨_, rfl, .bl b, "bool", rfl, rfl, _, rfl, iteF q⟩
    | str z => exact ⟨_, rfl, .str z, "str", rfl, rfl, _, rfl, iteF q⟩
    | byt b => cases hk
    | flt b => cases hk
    | ref b => cases hk
    | ty b => cases hk
    | int i =>
      refine ⟨_, rfl, .int i, "int", rfl, rfl, _, rfl, ?_⟩
      refine iteT ⟨_, rfl, _, rfl, _, _, rfl, rfl, _, rfl, ite2 (fun e => ?_) (fun e => ?_)⟩
      · have e1 : lo ≤ i := of_decide_eq_true e
        refine ⟨_, rfl, _, _, rfl, rfl, ?_⟩
        have e2 : decide (lo ≤ i ∧ i ≤ hi) = decide (i ≤ hi) := by simp [e1]
        have q : Q (.bl (decide (lo ≤ i ∧ i ≤ hi))) H := q
        rw [e2] at q
        exact q
      · have e1 : ¬ lo ≤ i := fun z => e (decide_eq_true z)
        have e2 : decide (lo ≤ i ∧ i ≤ hi) = false := by simp [e1]
        have q : Q (.bl (decide (lo ≤ i ∧ i ≤ hi))) H := q
        rw [e2] at q
        exact q
def sp_is_one_of : Sp := fun vs H Q _ => ∃ (z : Str) (p : Addr) (l : List Str), vs = [.str z, .ref p] ∧ H p = some (.lst (l.map V.str)) ∧ Q (.bl (decide (z ∈ l))) H
theorem cal_is_one_of (T : Tp K mg) : Cal P w K mg base 1 "is_one_of" sp_is_one_of := by
  obtain ⟨fd, F⟩ := f_is_one_of T
  refine cal_of F (g_is_one_of T) (b_is_one_of F) sc_is_one_of (fun vs H Q E h => ?_) (fun cdv A outer s H vs Q E hr h => ?_)
  · obtain ⟨z, p, l, rfl, _⟩ := h
    rfl
  · obtain ⟨z, p, l, rfl, hp, q⟩ := h
    refine ⟨_, (pss_one (ps_ret (pe_and (pe_callB call_isK (by rfl) (z_isinstance T) bb_isinstance (pa_cons (pv 0) (pa_cons (pe_bltn (v := .ty "str") (by rfl) (z_str T) bb_str rfl) pa_nil))) (pe_one (pe_cmpR op_in_seq (pv 0) (pv 1) (by rfl)))))), ?_⟩
    refine ⟨_, rfl, _, "str", "str", rfl, .base (.str _), by decide, by decide, _, rfl, iteT ⟨_, rfl, _, rfl, p, _, rfl, .inl (.inl (.inl hp)), rfl, flat_strs _, ?_⟩⟩
    show Q (.bl (inV (.str z) (l.map V.str))) _
    rw [in_strs]
    exact q
/-! ### is_name -/
def sp_is_name : Sp := fun vs H Q _ => ∃ z : Str, vs = [.str z] ∧ Nm z ∧ ∀ H', Same H H' → Q (.bl true) H'
theorem cal_is_name (T : Tp K mg) : Cal P w K mg base 2 "is_name" sp_is_name := by
  obtain ⟨fd, F⟩ := f_is_name T
  refine cal_of F (g_is_name T) (b_is_name F) sc_is_name (fun vs H Q E h => ?_) (fun cdv A outer s H vs Q E hr h => ?_)
  · obtain ⟨z, rfl, _⟩ := h
    rfl
  · obtain ⟨z, rfl, ⟨n1, n2, n3⟩, q⟩ := h
    refine ⟨_, (pss_cons (ps_if (PW.pt (pw_or (pt_not (pt_val (pe_callB call_isK (by rfl) (z_isinstance T) bb_isinstance (pa_cons (pv 0) (pa_cons (pe_bltn (v := .ty "str") (by rfl) (z_str T) bb_str rfl) pa_nil))))) (pw_or1 (pt_not (pt_chain op_le op_le pe_int (pe_callB call_len_str (by rfl) (z_len T) bb_len (pa_cons (pv 0) pa_nil)) (C8.pe_gc (by rfl) (c_LONGEST_NAME T))))))) (pss_one (ps_ret pe_bl)) pss_nil)
      (pss_one (ps_ret (pe_callB (cr_all rfl) (by rfl) (z_all T) bb_all (pa_cons (pe_lc (own := [("letter", 1)]) (g := gName 1) (tt := tYes) rfl sc_is_name.nd (pi_str (pv 0)) (blkOk_by (N := N_is_name) (sc := defScope s_is_name) (by decide +kernel)) (fun _ _ _ _ _ => (pg_name (i := 1) sc_is_name.nd rfl (.inl rfl))) (fun _ _ _ _ _ => pts_nil) (fun _ _ _ _ _ => (pe_cmpR op_in_sign (pv 1) (C8.pe_gc (by rfl) (c_LETTERS T)) (by rfl)))) pa_nil))))), ?_⟩
    refine ⟨_, rfl, _, "str", "str", rfl, .base (.str _), by decide, by decide, _, rfl, ?_⟩
    refine iteF ⟨_, rfl, _, rfl, Nat.le_trans n2 (by decide), _, _, rfl, rfl, _, rfl, ?_⟩
    have e1 : decide ((1 : Int) ≤ (z.length : Int)) = true := decide_eq_true (by omega)
    rw [e1]
    refine iteT ⟨_, _, rfl, rfl, _, rfl, ?_⟩
    have e2 : decide ((z.length : Int) ≤ 8) = true := decide_eq_true (by omega)
    rw [e2]
    refine iteF ?_
    refine ⟨_, rfl, _, rfl, fun D nD => ?_⟩
    refine lc_it walk_str (fun i H1 => Same H H1 ∧ H1 D = some (.lst ((List.replicate i true).map V.bl))) ⟨same_upd nD, upd_same⟩ (fun _ _ _ _ => trivial) ?_ ?_
    · rintro i x H1 H2 hi ⟨s1, d1⟩ ⟨rfl, c, hc, rfl⟩
      refine ⟨rfl, yes_i (iteT ⟨_, rfl, c, letters, rfl, rfl, ?_⟩)⟩
      have hcm : c ∈ z.cps.toList := by
        obtain ⟨hi', hc'⟩ := Array.getElem?_eq_some_iff.mp hc
        rw [← hc']
        exact Array.mem_toList_iff.mpr (Array.getElem_mem hi')
      refine ⟨_, d1, ?_, ?_, ?_⟩
      · rw [List.length_map, List.length_replicate]
        have : z.cps.size = z.length := rfl
        exact small1000 (by omega)
      · exact fun b o e => by
          rw [upd_ne (ne_of_none e nD)]
          exact s1 b o e
      · rw [upd_same, decide_eq_true (n3 c hcm), List.replicate_succ', List.map_append]
        rfl
    · rintro H1 ⟨s1, d1⟩
      refine ⟨D, List.replicate z.cps.size true, rfl, .inl (.inl d1), ?_⟩
      rw [show (List.replicate z.cps.size true).all id = true by simp]
      exact q H1 s1
end
end Tw

set_option maxHeartbeats 4000000
namespace Tw
open PySem PySem.Spec PyProof.Rows L2
/-! ### attributes stored -/
theorem ne_mb : ¬ (("by" : Str) = "moment_rows") := by decide +kernel
theorem ne_sb : ¬ (("by" : Str) = "span_rows") := by decide +kernel
theorem ne_tb : ¬ (("by" : Str) = "tie_rows") := by decide +kernel
theorem ne_sm : ¬ (("moment_rows" : Str) = "span_rows") := by decide +kernel
theorem ne_tm : ¬ (("moment_rows" : Str) = "tie_rows") := by decide +kernel
theorem ne_ts : ¬ (("span_rows" : Str) = "tie_rows") := by decide +kernel
theorem pf0 {v : V} : putF "by" v ([] : List (Str × V)) = ([("by", v)] : List (Str × V)) := rfl
theorem pf1 {v x : V} : putF "moment_rows" v ([("by", x)] : List (Str × V)) = ([("by", x), ("moment_rows", v)] : List (Str × V)) := by
  simp only [putF, if_neg ne_mb]
theorem pf2 {v x y : V} : putF "span_rows" v ([("by", x), ("moment_rows", y)] : List (Str × V)) = ([("by", x), ("moment_rows", y), ("span_rows", v)] : List (Str × V)) := by
  simp only [putF, if_neg ne_sb, if_neg ne_sm]
theorem pf3 {v x y z : V} : putF "tie_rows" v ([("by", x), ("moment_rows", y), ("span_rows", z)] : List (Str × V)) = ([("by", x), ("moment_rows", y), ("span_rows", z), ("tie_rows", v)] : List (Str × V)) := by
  simp only [putF, if_neg ne_tb, if_neg ne_tm, if_neg ne_ts]
theorem wf_pm {l : Int} {a b c d : Addr} : putF "moment_rows" (.ref d) (wf l a b c) = wf l d b c := by
  unfold wf
  simp only [putF, if_neg ne_mb, if_true]
theorem wf_ps {l : Int} {a b c d : Addr} : putF "span_rows" (.ref d) (wf l a b c) = wf l a d c := by
  unfold wf
  simp only [putF, if_neg ne_sb, if_neg ne_sm, if_true]
theorem wf_pt {l : Int} {a b c d : Addr} : putF "tie_rows" (.ref d) (wf l a b c) = wf l a b d := by
  unfold wf
  simp only [putF, if_neg ne_tb, if_neg ne_tm, if_neg ne_ts, if_true]
theorem up_eq {H : Hp} {p : Addr} {o u : HO} (h : o = u) : (upd H p o) p = some u := by
  rw [upd_same, h]
section
variable {P : Program} {w : World} {K : PySem.W.Frag} {mg : Str → Option Value} {base : Heap}
abbrev CW (K : PySem.W.Frag) : Addr := He.ga K "Web"
/-! ### Web.__init__ -/
def sp_init (K : PySem.W.Frag) : Sp := fun vs H Q _ => ∃ (p dx : Addr) (l : Int), vs = [.ref p, .int l] ∧ H p = some (.ins (CW K) dx []) ∧ 1 ≤ l ∧ l ≤ 1000 ∧
  ∀ (a b c : Addr) (H' : Hp), (∀ x o, H x = some o → x ≠ p → H' x = some o) → H' p = some (.ins (CW K) dx (wf l a b c)) → H' a = some (.tup []) → H' b = some (.tup []) → H' c = some (.tup []) → Q .non H'
theorem fn_init (T : Tp K mg) {fd : FuncData} (F : FunD K "__init__" "Web.__init__" (defArgs s_Web_UinitU) (defBody s_Web_UinitU) (defScope s_Web_UinitU) [(V.int 100 : V)] [] (He.ma K (He.ga K "Web") "__init__") fd) :
    FnOk P w K mg base CX0 3 (He.ma K (He.ga K "Web") "__init__") fd ["self", "by"] (sp_init K) := by
  refine fnok_of F sc_Web_UinitU (fun vs H Q E h => ?_) (fun cdv A outer s H vs Q E hr h => ?_)
  · obtain ⟨p, dx, l, rfl, _⟩ := h
    rfl
  · obtain ⟨p, dx, l, rfl, hp, l1, l2, q⟩ := h
    refine ⟨_, (pss_cons (ps_if (pt_not (pt_val (C8.pe_c (cal_is_whole T) hr (by decide) rfl (pa_cons (pv 1) (pa_cons pe_int (pa_cons (C8.pe_gc (by rfl) (c_MOST_BY T)) pa_nil)))))) (pss_one ps_never) pss_nil)
      (pss_cons (ps_fld (pv 0) (pv 1) rfl)
      (pss_cons (ps_fld (pv 0) (pe_tup pa_nil) rfl)
      (pss_cons (ps_fld (pv 0) (pe_tup pa_nil) rfl)
      (pss_one (ps_fld (pv 0) (pe_tup pa_nil) rfl)))))), ?_⟩
    refine ⟨_, rfl, l, 1, 1000, rfl, _, rfl, ?_⟩
    rw [decide_eq_true (show (1 : Int) ≤ l ∧ l ≤ 1000 from ⟨l1, l2⟩)]
    refine iteF ?_
    -- self.by = by
    refine ⟨_, rfl, _, rfl, p, CW K, dx, [], rfl, hp, cl_Web T, na_by T, (by show 0 < 1000; decide), ?_⟩
    -- the three rows
    refine ⟨Nat.zero_le _, fun a na => ?_⟩
    have npa : p ≠ a := fun e => by
      rw [← e, upd_same] at na
      cases na
    refine ⟨_, rfl, p, CW K, dx, _, rfl, (by rw [upd_ne npa]; exact up_eq rfl), cl_Web T, na_moment_rows T, (by show 1 < 1000; decide), ?_⟩
    refine ⟨Nat.zero_le _, fun b nb => ?_⟩
    have npb : p ≠ b := fun e => by
      rw [← e, upd_same] at nb
      cases nb
    have nab : a ≠ b := fun e => by
      rw [← e, upd_ne npa.symm, upd_same] at nb
      cases nb
    refine ⟨_, rfl, p, CW K, dx, _, rfl, (by rw [upd_ne npb]; exact up_eq rfl), cl_Web T, na_span_rows T, (by rw [pf0, pf1]; show 2 < 1000; decide), ?_⟩
    refine ⟨Nat.zero_le _, fun c nc => ?_⟩
    have npc : p ≠ c := fun e => by
      rw [← e, upd_same] at nc
      cases nc
    have nbc : b ≠ c := fun e => by
      rw [← e, upd_ne npb.symm, upd_same] at nc
      cases nc
    have nac : a ≠ c := fun e => by
      rw [← e, upd_ne npa.symm, upd_ne nab, upd_ne npa.symm, upd_same] at nc
      cases nc
    refine ⟨_, rfl, p, CW K, dx, _, rfl, (by rw [upd_ne npc]; exact up_eq rfl), cl_Web T, na_tie_rows T, (by rw [pf0, pf1, pf2]; show 3 < 1000; decide), ?_⟩
    refine q a b c _ (fun x o e hx => ?_) (up_eq (by rw [pf0, pf1, pf2, pf3]; rfl)) ?_ ?_ ?_
    · have ea : (upd H p (.ins (CW K) dx (putF "by" (.int l) []))) x = some o := by
        rw [upd_ne hx]
        exact e
      have nxa : x ≠ a := ne_of_none ea na
      have eb : (upd (upd (upd H p (.ins (CW K) dx (putF "by" (.int l) []))) a (.tup [])) p (.ins (CW K) dx (putF "moment_rows" (.ref a) (putF "by" (.int l) [])))) x = some o := by
        rw [upd_ne hx, upd_ne nxa]
        exact ea
      have nxb : x ≠ b := ne_of_none eb nb
      have nxc : x ≠ c := ne_of_none (by rw [upd_ne hx, upd_ne nxb]; exact eb) nc
      rw [upd_ne hx, upd_ne nxc, upd_ne hx, upd_ne nxb]
      exact eb
    · rw [upd_ne npa.symm, upd_ne nac, upd_ne npa.symm, upd_ne nab, upd_ne npa.symm, upd_same]
    · rw [upd_ne npb.symm, upd_ne nbc, upd_ne npb.symm, upd_same]
    · rw [upd_ne npc.symm, upd_same]
theorem mak_Web (T : Tp K mg) : Mak P w K mg base 3 "Web" (CW K) (sp_init K) [] := by
  obtain ⟨fd, F⟩ := f_Web_UinitU T
  obtain ⟨ds, hv, hb⟩ := F.binds1 (ps := ["self", "by"]) 2 1 (by simp) rfl fun T kV doc pm an cdv ct us its h1 h2 => match us, its, h1, h2 with
    | [_, _], [_], _, _ => ⟨_, rfl, rfl⟩
  exact ⟨_, fd, ["self", "by"], ds, mk_Web T, fn_init T F, g_Web T, hb, hv⟩
theorem mak0_Web (T : Tp K mg) : Mak P w K mg base 3 "Web" (CW K) (sp_init K) [.int 100] := by
  obtain ⟨fd, F⟩ := f_Web_UinitU T
  obtain ⟨ds, hv, hb⟩ := F.binds1 (ps := ["self", "by"]) 1 0 (by simp) rfl fun T kV doc pm an cdv ct us its h1 h2 => match us, its, h1, h2 with
    | [_], [_], _, _ => ⟨_, rfl, rfl⟩
  exact ⟨_, fd, ["self", "by"], ds, mk_Web T, fn_init T F, g_Web T, hb, hv⟩
end
end Tw

set_option maxHeartbeats 4000000
namespace Tw
open PySem PySem.Spec PyProof.Rows L2
theorem Same.upd' {H H1 : Hp} {p : Addr} {o : HO} (s : Same H H1) (h : H1 p = none) : Same H (upd H1 p o) := s.trans (same_upd h)
/-- a new list is written again: what was ahead of it stays -/
theorem same_put {H H1 : Hp} {D : Addr} {o : HO} (s : Same H H1) (nD : H D = none) : Same H (upd H1 D o) := fun b x e => by
  rw [upd_ne (ne_of_none e nD)]
  exact s b x e
section
variable {P : Program} {w : World} {K : PySem.W.Frag} {mg : Str → Option Value} {base : Heap}
/-! ### woven -/
def sp_woven (K : PySem.W.Frag) : Sp := fun vs H Q _ => ∃ (m : Md) (a b c : Addr) (ws bs : List V), vs = [.int m.last, .ref a, .ref b, .ref c] ∧ H a = some (.tup (m.own.map V.str)) ∧ H b = some (.tup ws) ∧ Rows H ws (m.wd.map Wd.row) ∧ H c = some (.tup bs) ∧ Rows H bs (m.bd.map Bd.row) ∧
  (m.own.length ≤ 10 ∧ m.wd.length ≤ 4 ∧ m.bd.length ≤ 40) ∧ (1 ≤ m.last ∧ m.last ≤ 1000) ∧ ∀ (p : Addr) (H' : Hp), Same H H' → H p = none → WebAt (CW K) H' p m → Q (.ref p) H'
theorem cal_woven (T : Tp K mg) : Cal P w K mg base 5 "woven" (sp_woven K) := by
  obtain ⟨fd, F⟩ := f_woven T
  refine cal_of F (g_woven T) (b_woven F) sc_woven (fun vs H Q E h => ?_) (fun cdv A outer s H vs Q E hr h => ?_)
  · obtain ⟨m, a, b, c, ws, bs, rfl, _⟩ := h
    rfl
  · obtain ⟨m, a, b, c, ws, bs, rfl, ha, hb, rb, hc, rc, hl, hla, q⟩ := h
    refine ⟨_, (pss_cons (ps_set (i := 4) sc_woven.nd rfl (.inl rfl) (C8.pe_mk (mak_Web T) hr (by decide) rfl (pa_cons (pv 0) pa_nil)))
      (pss_cons (ps_fld (pv 4) (pe_callTy call_tuple_of (by rfl) (z_tuple T) bb_tuple (pa_cons (pv 1) pa_nil)) rfl)
      (pss_cons (ps_fld (pv 4) (pe_callTy call_tuple_of (by rfl) (z_tuple T) bb_tuple (pa_cons (pv 2) pa_nil)) rfl)
      (pss_cons (ps_fld (pv 4) (pe_callTy call_tuple_of (by rfl) (z_tuple T) bb_tuple (pa_cons (pv 3) pa_nil)) rfl)
      (pss_one (ps_ret (pv 4))))))), ?_⟩
    refine ⟨_, rfl, fun x dx nx ndx ne => ⟨x, dx, m.last, rfl, upd_same, hla.1, hla.2, fun a0 b0 c0 H1 kp hp ha0 hb0 hc0 => ⟨rfl, ?_⟩⟩⟩
    have s1 : Same H H1 := Same.made nx ndx kp
    have nax : a ≠ x := ne_of_none ha nx
    have nbx : b ≠ x := ne_of_none hb nx
    have ncx : c ≠ x := ne_of_none hc nx
    refine ⟨_, rfl, a, _, rfl, .inr ⟨.inl (.inl (s1 _ _ ha)), _, rfl, x, CW K, dx, _, rfl, hp, cl_Web T, na_moment_rows T, (by show 4 < 1000; decide), ?_⟩⟩
    refine ⟨_, rfl, b, _, rfl, .inr ⟨.inl (.inl (by rw [upd_ne nbx]; exact s1 _ _ hb)), _, rfl, x, CW K, dx, _, rfl, up_eq (by rw [wf_pm]), cl_Web T, na_span_rows T, (by show 4 < 1000; decide), ?_⟩⟩
    refine ⟨_, rfl, c, _, rfl, .inr ⟨.inl (.inl (by rw [upd_ne ncx, upd_ne ncx]; exact s1 _ _ hc)), _, rfl, x, CW K, dx, _, rfl, up_eq (by rw [wf_ps]), cl_Web T, na_tie_rows T, (by show 4 < 1000; decide), ?_⟩⟩
    have s2 : Same H (upd (upd (upd H1 x (.ins (CW K) dx (putF "moment_rows" (.ref a) (wf m.last a0 b0 c0)))) x (.ins (CW K) dx (putF "span_rows" (.ref b) (wf m.last a b0 c0)))) x (.ins (CW K) dx (putF "tie_rows" (.ref c) (wf m.last a b c0)))) := fun y o e => by
      have ny : y ≠ x := ne_of_none e nx
      rw [upd_ne ny, upd_ne ny, upd_ne ny]
      exact s1 _ _ e
    refine ⟨_, rfl, q x _ s2 nx ⟨⟨dx, a, b, c, ws, bs, up_eq (by rw [wf_pt]), s2 _ _ ha, s2 _ _ hb, rb.keep (Kt.of s2), s2 _ _ hc, rc.keep (Kt.of s2)⟩, hl, hla⟩⟩
/-! ### moments, spans, ties -/
def sp_moments (K : PySem.W.Frag) : Sp := fun vs H Q _ => ∃ (p : Addr) (m : Md), vs = [.ref p] ∧ WebAt (CW K) H p m ∧ ∀ q, H q = none → Q (.ref q) (upd H q (.lst (m.own.map V.str)))
theorem met_Web_moments (T : Tp K mg) : Met P w K mg base 2 (CW K) "moments" (sp_moments K) := by
  obtain ⟨fd, F⟩ := f_Web_moments T
  refine met_of F (cl_Web T) (me_Web_moments T) (b_Web_moments F) sc_Web_moments (fun vs H Q E h => ?_) (fun cdv A outer s H vs Q E hr h => ?_)
  · obtain ⟨p, m, rfl, _⟩ := h
    rfl
  · obtain ⟨p, m, rfl, W, q⟩ := h
    obtain ⟨dx, a, b, c, ws, bs, h1, h2, h3, h4, h5, h6⟩ := W.ex
    refine ⟨_, (pss_one (ps_ret (pe_callTy call_list_of (by rfl) (z_list T) bb_list (pa_cons (pe_fld (pv 0) rfl) pa_nil)))), ?_⟩
    exact ⟨_, rfl, p, CW K, dx, _, _, rfl, h1, cl_Web T, na_moment_rows T, wf_m, a, _, rfl, .inr (.inl (.inl h2)), q⟩
def sp_spans (K : PySem.W.Frag) : Sp := fun vs H Q _ => ∃ (p : Addr) (m : Md), vs = [.ref p] ∧ WebAt (CW K) H p m ∧ ∀ ws q, Rows H ws (m.wd.map Wd.row) → H q = none → Q (.ref q) (upd H q (.lst ws))
theorem met_Web_spans (T : Tp K mg) : Met P w K mg base 2 (CW K) "spans" (sp_spans K) := by
  obtain ⟨fd, F⟩ := f_Web_spans T
  refine met_of F (cl_Web T) (me_Web_spans T) (b_Web_spans F) sc_Web_spans (fun vs H Q E h => ?_) (fun cdv A outer s H vs Q E hr h => ?_)
  · obtain ⟨p, m, rfl, _⟩ := h
    rfl
  · obtain ⟨p, m, rfl, W, q⟩ := h
    obtain ⟨dx, a, b, c, ws, bs, h1, h2, h3, h4, h5, h6⟩ := W.ex
    refine ⟨_, (pss_one (ps_ret (pe_callTy call_list_of (by rfl) (z_list T) bb_list (pa_cons (pe_fld (pv 0) rfl) pa_nil)))), ?_⟩
    exact ⟨_, rfl, p, CW K, dx, _, _, rfl, h1, cl_Web T, na_span_rows T, wf_s, b, _, rfl, .inr (.inl (.inl h3)), fun l => q ws l h4⟩
def sp_ties (K : PySem.W.Frag) : Sp := fun vs H Q _ => ∃ (p : Addr) (m : Md), vs = [.ref p] ∧ WebAt (CW K) H p m ∧ ∀ bs q, Rows H bs (m.bd.map Bd.row) → H q = none → Q (.ref q) (upd H q (.lst bs))
theorem met_Web_ties (T : Tp K mg) : Met P w K mg base 2 (CW K) "ties" (sp_ties K) := by
  obtain ⟨fd, F⟩ := f_Web_ties T
  refine met_of F (cl_Web T) (me_Web_ties T) (b_Web_ties F) sc_Web_ties (fun vs H Q E h => ?_) (fun cdv A outer s H vs Q E hr h => ?_)
  · obtain ⟨p, m, rfl, _⟩ := h
    rfl
  · obtain ⟨p, m, rfl, W, q⟩ := h
    obtain ⟨dx, a, b, c, ws, bs, h1, h2, h3, h4, h5, h6⟩ := W.ex
    refine ⟨_, (pss_one (ps_ret (pe_callTy call_list_of (by rfl) (z_list T) bb_list (pa_cons (pe_fld (pv 0) rfl) pa_nil)))), ?_⟩
    exact ⟨_, rfl, p, CW K, dx, _, _, rfl, h1, cl_Web T, na_tie_rows T, wf_t, c, _, rfl, .inr (.inl (.inl h5)), fun l => q bs l h6⟩
/-! ### points -/
def sp_points (K : PySem.W.Frag) : Sp := fun vs H Q _ => ∃ (p : Addr) (m : Md), vs = [.ref p] ∧ WebAt (CW K) H p m ∧ ∀ q H', Same H H' → H q = none → H' q = some (.lst (m.pts.map V.str)) → Q (.ref q) H'
theorem met_Web_points (T : Tp K mg) : Met P w K mg base 3 (CW K) "points" (sp_points K) := by
  obtain ⟨fd, F⟩ := f_Web_points T
  refine met_of F (cl_Web T) (me_Web_points T) (b_Web_points F) sc_Web_points (fun vs H Q E h => ?_) (fun cdv A outer s H vs Q E hr h => ?_)
  · obtain ⟨p, m, rfl, _⟩ := h
    rfl
  · obtain ⟨p, m, rfl, W, q⟩ := h
    obtain ⟨dx, a, b, c, ws, bs, h1, h2, h3, h4, h5, h6⟩ := W.ex
    have hl := W.len
    have hw : ws.length = m.wd.length := by
      rw [h4.len, List.length_map]
    refine ⟨_, (pss_cons (ps_setLc (i := 1) (own := [("span", 2)]) (g := gName 2) (tt := tYes) rfl sc_Web_points.nd rfl rfl (sw_true rfl rfl rfl (by decide +kernel)) (pi_tup (pe_fld (pv 0) rfl)) (blkOk_by (N := N_Web_points) (sc := defScope s_Web_points) (by decide +kernel)) (fun _ _ _ _ _ => (pg_name (i := 2) sc_Web_points.nd rfl (.inl rfl))) (fun _ _ _ _ _ => pts_nil) (fun _ _ _ _ _ => (pe_ix (ix_tupK (K := K) rfl) (pv 2) pe_int (fun _ _ => rfl))))
      (pss_one (ps_ret (pe_op op_cat (pe_op op_cat (pe_lst (pa_cons (C8.pe_gc (by rfl) (c_START T)) pa_nil)) (C8.pe_mt0 (met_Web_moments T) hr (by decide) (pv 0))) (pv 1))))), ?_⟩
    refine ⟨_, rfl, p, CW K, dx, _, _, rfl, h1, cl_Web T, na_span_rows T, wf_s, b, rfl, ⟨_, .inl (.inl h3)⟩, fun D nD => ?_⟩
    refine lc_tup (K := K) (a := b) (xs := ws) (fun i H1 => Same H H1 ∧ H1 D = some (.lst (((m.wd.map (·.en)).take i).map V.str))) ⟨same_upd nD, upd_same⟩ (fun i H1 _ ⟨s1, _⟩ => .inl (.inl (s1 _ _ h3))) ?_ ?_
    · rintro i x H1 hx ⟨s1, d1⟩
      obtain ⟨t, r, rfl, hr', ht⟩ := h4.at hx
      rw [List.getElem?_map] at hr'
      cases e : m.wd[i]? with
      | none =>
        rw [e] at hr'
        cases hr'
      | some y =>
        rw [e] at hr'
        cases hr'
        have hi : i < m.wd.length := (List.getElem?_eq_some_iff.mp e).1
        refine ⟨rfl, yes_i (iteT ⟨_, rfl, t, _, 0, _, rfl, rfl, .inl (.inl (s1 _ _ ht)), atI_nat (j := 0) rfl, _, d1, ?_, ?_, ?_⟩)⟩
        · rw [List.length_map, List.length_take]
          exact small1000 (by omega)
        · exact same_put s1 nD
        · rw [upd_same, List.take_add_one, List.getElem?_map, e, List.map_append]
          rfl
    · rintro H1 ⟨s1, d1⟩
      have en : (m.wd.map (·.en)).take ws.length = m.wd.map (·.en) := List.take_of_length_le (by rw [List.length_map]; omega)
      rw [en] at d1
      -- [START] + self.moments() + ends
      refine ⟨by show 1 ≤ sizeLine; decide, fun l nl => ?_⟩
      have s2 : Same H1 (upd H1 l (.lst [.str "start"])) := same_upd nl
      have W2 := (W.same s1).same s2
      obtain ⟨dx2, _, _, _, _, _, g1, _⟩ := W2.ex
      refine ⟨_, rfl, p, _, _, rfl, g1, wf_no (by decide +kernel), p, m, rfl, W2, fun k nk => ?_⟩
      have nlk : l ≠ k := fun z => by
        rw [← z, upd_same] at nk
        cases nk
      have s3 := same_upd (o := .lst (m.own.map V.str)) nk
      refine ⟨l, k, _, _, rfl, rfl, (by rw [upd_ne nlk]; exact upd_same), upd_same, ?_, fun r nr => ?_⟩
      · rw [List.length_map]
        exact Nat.le_of_lt (small1000 (by show 1 + _ ≤ 1000; omega))
      · have s4 := same_upd (o := .lst ([.str "start"] ++ m.own.map V.str)) nr
        have nDr : D ≠ r := ne_of_none (s3 _ _ (s2 _ _ d1)) nr
        refine ⟨_, rfl, r, D, _, _, rfl, rfl, upd_same, (s4 _ _ (s3 _ _ (s2 _ _ d1))), ?_, fun u nu => ?_⟩
        · rw [List.length_append, List.length_map, List.length_map, List.length_map]
          exact Nat.le_of_lt (small1000 (by show 1 + _ + _ ≤ 1000; omega))
        · have s5 := same_upd (o := .lst ([.str "start"] ++ m.own.map V.str ++ (m.wd.map (·.en)).map V.str)) nu
          have sa := ((s1.trans s2).trans s3).trans s4
          refine q u _ (sa.trans s5) (sa.free nu) ?_
          rw [upd_same]
          unfold Md.pts
          rw [List.map_cons, List.map_append]
          rfl
end
end Tw

set_option maxHeartbeats 4000000
namespace Tw
open PySem PySem.Spec PyProof.Rows L2
/-- the two bounds of a tie, good -/
structure BOk (bo to : Option Int) : Prop where
  one : ¬ (bo = none ∧ to = none)
  lo : ∀ x, bo = some x → -1000 ≤ x ∧ x ≤ 1000
  hi : ∀ x, to = some x → -1000 ≤ x ∧ x ≤ 1000
  le : ∀ x y, bo = some x → to = some y → x ≤ y
def tls (bo to : Option Int) : List Int := bo.toList ++ to.toList
theorem BOk.sh {bo to : Option Int} (h : BOk bo to) : (∀ x ∈ tls bo to, -1000 ≤ x ∧ x ≤ 1000) ∧ ((∃ u, tls bo to = [u]) ∨ ∃ u v, tls bo to = [u, v] ∧ u ≤ v) := by
  cases bo with
  | none =>
    cases to with
    | none => exact absurd ⟨rfl, rfl⟩ h.one
    | some y =>
      refine ⟨fun x hx => ?_, .inl ⟨y, rfl⟩⟩
      have e : x = y := by simpa [tls] using hx
      rw [e]
      exact h.hi y rfl
  | some x0 =>
    cases to with
    | none =>
      refine ⟨fun x hx => ?_, .inl ⟨x0, rfl⟩⟩
      have e : x = x0 := by simpa [tls] using hx
      rw [e]
      exact h.lo x0 rfl
    | some y =>
      refine ⟨fun x hx => ?_, .inr ⟨x0, y, rfl, h.le x0 y rfl rfl⟩⟩
      have e : x = x0 ∨ x = y := by simpa [tls] using hx
      rcases e with e | e
      · rw [e]
        exact h.lo x0 rfl
      · rw [e]
        exact h.hi y rfl
theorem oV_non {o : Option Int} : decide (oV o = V.non) = o.isNone := by
  cases o <;> simp [oV]
section
variable {P : Program} {w : World} {K : PySem.W.Frag} {mg : Str → Option Value} {base : Heap}
/-! ### are_bounds -/
def sp_are_bounds : Sp := fun vs H Q _ => ∃ bo to : Option Int, vs = [oV bo, oV to] ∧ BOk bo to ∧ ∀ H', Same H H' → Q (.bl true) H'
theorem cal_are_bounds (T : Tp K mg) : Cal P w K mg base 3 "are_bounds" sp_are_bounds := by
  obtain ⟨fd, F⟩ := f_are_bounds T
  refine cal_of F (g_are_bounds T) (b_are_bounds F) sc_are_bounds (fun vs H Q E h => ?_) (fun cdv A outer s H vs Q E hr h => ?_)
  · obtain ⟨bo, to, rfl, _⟩ := h
    rfl
  · obtain ⟨bo, to, rfl, B, q⟩ := h
    obtain ⟨hin, hsh⟩ := B.sh
    refine ⟨_, (pss_cons (ps_setLc (i := 2) (own := [("bound", 3)]) (g := gName 3) rfl sc_are_bounds.nd rfl rfl (sw_true rfl rfl rfl (by decide +kernel)) (pi_tup (pe_tup (pa_cons (pv 0) (pa_cons (pv 1) pa_nil)))) (blkOk_by (N := N_are_bounds) (sc := defScope s_are_bounds) (by decide +kernel)) (fun _ _ _ _ _ => (pg_name (i := 3) sc_are_bounds.nd rfl (.inl rfl))) (fun _ _ _ _ _ => (pts_one (pt_cmpR op_notN (pv 3) pe_non (nomark _)))) (fun _ _ _ _ _ => (pv 3)))
      (pss_cons (ps_if (pt_not (pt_val (pe_callB (cr_all rfl) (by rfl) (z_all T) bb_all (pa_cons (pe_lc (own := [("bound", 3)]) (g := gName 3) (tt := tYes) rfl sc_are_bounds.nd (pi_list (pv 2)) (blkOk_by (N := N_are_bounds) (sc := defScope s_are_bounds) (by decide +kernel)) (fun _ _ _ _ _ => (pg_name (i := 3) sc_are_bounds.nd rfl (.inl rfl))) (fun _ _ _ _ _ => pts_nil) (fun _ _ _ _ _ => (C8.pe_c (cal_is_whole T) hr (by decide) rfl (pa_cons (pv 3) (pa_cons (pe_un un_neg (C8.pe_gc (by rfl) (c_MOST_BOUND T))) (pa_cons (C8.pe_gc (by rfl) (c_MOST_BOUND T)) pa_nil)))))) pa_nil)))) (pss_one (ps_ret pe_bl)) pss_nil)
      (pss_one (ps_ret (pe_and (pe_cmpR op_gt (pe_callB call_len_seq (by rfl) (z_len T) bb_len (pa_cons (pv 2) pa_nil)) pe_int (nomark _)) (pe_one (pe_cmpR op_le (pe_ix ix_list (pv 2) pe_int (fun _ _ => rfl)) (pe_ix ix_list (pv 2) (pe_un un_neg pe_int) (fun _ _ => rfl)) (nomark _)))))))), ?_⟩
    refine ⟨_, rfl, _, rfl, (by show 2 ≤ sizeLine; decide), fun t nt => ?_⟩
    have s1 : Same H (upd H t (.tup [oV bo, oV to])) := same_upd nt
    refine ⟨t, rfl, ⟨_, .inl (.inl upd_same)⟩, fun D nD => ?_⟩
    have nDH : H D = none := s1.free nD
    refine lc_tup (K := K) (a := t) (xs := [oV bo, oV to]) (fun i H1 => Same (upd H t (.tup [oV bo, oV to])) H1 ∧ H1 D = some (.lst ((((([bo, to] : List (Option Int)).take i).filterMap id)).map V.int)))
      ⟨same_upd nD, upd_same⟩ (fun i H1 _ ⟨s2, _⟩ => .inl (.inl (s2 _ _ upd_same))) ?_ ?_
    · rintro i x H1 hx ⟨s2, d1⟩
      obtain ⟨o, eo, ex⟩ : ∃ o : Option Int, ([bo, to] : List (Option Int))[i]? = some o ∧ x = oV o := by
        match i, hx with
        | 0, hx => exact ⟨bo, rfl, (Option.some.inj hx).symm⟩
        | 1, hx => exact ⟨to, rfl, (Option.some.inj hx).symm⟩
      subst ex
      have hi : i < 2 := (List.getElem?_eq_some_iff.mp eo).1
      have e2 : (([bo, to] : List (Option Int)).take (i + 1)).filterMap id = (([bo, to] : List (Option Int)).take i).filterMap id ++ o.toList := by
        rw [List.take_add_one, eo, List.filterMap_append]
        cases o <;> rfl
      refine ⟨rfl, _, rfl, rfl, _, rfl, ?_⟩
      rw [oV_non]
      cases o with
      | none =>
        refine iteF ⟨s2, ?_⟩
        rw [e2, d1]
        show _ = some (HO.lst (List.map V.int (_ ++ [])))
        rw [List.append_nil]
      | some z =>
        refine iteT ⟨_, rfl, _, d1, ?_, ?_, ?_⟩
        · rw [List.length_map]
          refine Nat.lt_of_le_of_lt (List.length_filterMap_le _ _) ?_
          rw [List.length_take]
          exact small1000 (by show min i 2 ≤ 1000; omega)
        · exact same_put s2 nD
        · rw [upd_same, e2, List.map_append]
          rfl
    · rintro H1 ⟨s2, d1⟩
      have d2 : H1 D = some (.lst ((tls bo to).map V.int)) := by
        rw [d1]
        cases bo <;> cases to <;> rfl
      have s3 : Same H H1 := s1.trans s2
      have hlen : (tls bo to).length ≤ 2 := by
        rcases hsh with ⟨u, e⟩ | ⟨u, v, e, _⟩ <;> rw [e] <;> simp
      -- all([is_whole(..) for bound in told])
      refine ⟨_, rfl, D, rfl, ⟨_, .inl (.inl d2)⟩, fun L nL => ?_⟩
      have nLH : H L = none := s3.free nL
      have nDL : D ≠ L := ne_of_none d2 nL
      refine lc_list (K := K) (a := D) (xs := (tls bo to).map V.int) (fun i H2 => Same H H2 ∧ H2 D = some (.lst ((tls bo to).map V.int)) ∧ H2 L = some (.lst ((List.replicate i true).map V.bl)))
        ⟨s3.trans (same_upd nL), by rw [upd_ne nDL]; exact d2, upd_same⟩ (fun i H2 _ ⟨_, d, _⟩ => .inl (.inl d)) ?_ ?_
      · rintro i x H2 hx ⟨s4, d4, l4⟩
        rw [List.getElem?_map] at hx
        cases e : (tls bo to)[i]? with
        | none =>
          rw [e] at hx
          cases hx
        | some z =>
          rw [e] at hx
          cases hx
          have hi : i < (tls bo to).length := (List.getElem?_eq_some_iff.mp e).1
          have hz := hin z (List.mem_of_getElem? e)
          refine ⟨rfl, yes_i (iteT ⟨_, rfl, 1000, rfl, z, -1000, 1000, rfl, _, l4, ?_, ?_, ?_, ?_⟩)⟩
          · rw [List.length_map, List.length_replicate]
            exact small1000 (by omega)
          · exact same_put s4 nLH
          · rw [upd_ne nDL]
            exact d4
          · rw [upd_same, decide_eq_true hz, List.replicate_succ', List.map_append]
            rfl
      · rintro H2 ⟨s4, d4, l4⟩
        refine ⟨L, _, rfl, .inl (.inl l4), _, rfl, ?_⟩
        rw [show (List.replicate ((tls bo to).map V.int).length true).all id = true by simp]
        refine iteF ?_
        -- len(told) > 0 and told[0] <= told[-1]
        refine ⟨_, rfl, D, _, rfl, .inl (.inl (.inl d4)), _, 0, rfl, rfl, _, rfl, ?_⟩
        have fin : ∀ (u v : Int) (pre : List Int), (tls bo to)[0]? = some u → tls bo to = pre ++ [v] → u ≤ v → (if decide ((0 : Int) < ((tls bo to).map V.int).length) = true then
            tOp (rI0 fun i j => .bl (decide (i ≤ j))) (tOp (rIxL K) (tVar 2) (tC (.int 0))) (tOp (rIxL K) (tVar 2) (tUn (rU fun i => .int (-i)) (tC (.int 1)))) [some (oV bo), some (oV to), some (.ref D), none] H2 Q else Q (.bl false) H2) := by
          intro u v pre hu hv huv
          have h0 : 0 < (tls bo to).length := by
            rw [hv, List.length_append]
            exact Nat.succ_pos _
          rw [decide_eq_true (by rw [List.length_map]; omega)]
          have hz : (tls bo to).map V.int = pre.map V.int ++ [.int v] := by
            rw [hv, List.map_append]
            rfl
          refine iteT ⟨_, rfl, D, _, 0, .int u, rfl, rfl, .inl (.inl d4), atI_nat (j := 0) (by rw [List.getElem?_map, hu]; rfl), _, rfl, _, rfl, D, _, _, .int v, rfl, rfl, .inl (.inl d4), ?_, u, v, rfl, rfl, ?_⟩
          · rw [hz]
            exact atI_last _ _
          · show Q (.bl (decide (u ≤ v))) H2
            rw [decide_eq_true huv]
            exact q H2 s4
        rcases hsh with ⟨u, e⟩ | ⟨u, v, e, huv⟩
        · exact fin u u [] (by rw [e]; rfl) (by rw [e]; rfl) (Int.le_refl _)
        · exact fin u v [u] (by rw [e]; rfl) (by rw [e]; rfl) huv
/-! ### is_begin, need_free_name, need_point -/
def sp_is_begin (K : PySem.W.Frag) : Sp := fun vs H Q _ => ∃ (p : Addr) (m : Md) (z : Str), vs = [.ref p, .str z] ∧ WebAt (CW K) H p m ∧ (z = "start" ∨ z ∈ m.own) ∧ ∀ H', Same H H' → Q (.bl true) H'
theorem cal_is_begin (T : Tp K mg) : Cal P w K mg base 3 "is_begin" (sp_is_begin K) := by
  obtain ⟨fd, F⟩ := f_is_begin T
  refine cal_of F (g_is_begin T) (b_is_begin F) sc_is_begin (fun vs H Q E h => ?_) (fun cdv A outer s H vs Q E hr h => ?_)
  · obtain ⟨p, m, z, rfl, _⟩ := h
    rfl
  · obtain ⟨p, m, z, rfl, W, hz, q⟩ := h
    obtain ⟨dx, a, b, c, ws, bs, h1, _⟩ := W.ex
    refine ⟨_, (pss_one (ps_ret (C8.pe_c (cal_is_one_of T) hr (by decide) rfl (pa_cons (pv 1) (pa_cons (pe_op op_cat (pe_lst (pa_cons (C8.pe_gc (by rfl) (c_START T)) pa_nil)) (C8.pe_mt0 (met_Web_moments T) hr (by decide) (pv 0))) pa_nil))))), ?_⟩
    refine ⟨_, rfl, by show 1 ≤ sizeLine; decide, fun l nl => ?_⟩
    have s1 : Same H (upd H l (.lst [.str "start"])) := same_upd nl
    refine ⟨_, rfl, p, dx, _, rfl, s1 _ _ h1, wf_no (by decide +kernel), p, m, rfl, W.same s1, fun k nk => ?_⟩
    have nlk : l ≠ k := fun e => by
      rw [← e, upd_same] at nk
      cases nk
    have s2 := same_upd (o := .lst (m.own.map V.str)) nk
    refine ⟨l, k, _, _, rfl, rfl, (by rw [upd_ne nlk]; exact upd_same), upd_same, ?_, fun r nr => ?_⟩
    · rw [List.length_map]
      have hl := W.len
      exact Nat.le_of_lt (small1000 (by show 1 + _ ≤ 1000; omega))
    · have s3 := same_upd (o := .lst ([.str "start"] ++ m.own.map V.str)) nr
      refine ⟨z, r, "start" :: m.own, rfl, upd_same, ?_⟩
      rw [decide_eq_true (List.mem_cons.mpr hz)]
      exact q _ ((s1.trans s2).trans s3)
def sp_need_free_name (K : PySem.W.Frag) : Sp := fun vs H Q _ => ∃ (p : Addr) (m : Md) (z : Str), vs = [.ref p, .str z] ∧ WebAt (CW K) H p m ∧ Nm z ∧ ¬ z ∈ m.pts ∧ ∀ H', Same H H' → Q .non H'
theorem cal_need_free_name (T : Tp K mg) : Cal P w K mg base 4 "need_free_name" (sp_need_free_name K) := by
  obtain ⟨fd, F⟩ := f_need_free_name T
  refine cal_of F (g_need_free_name T) (b_need_free_name F) sc_need_free_name (fun vs H Q E h => ?_) (fun cdv A outer s H vs Q E hr h => ?_)
  · obtain ⟨p, m, z, rfl, _⟩ := h
    rfl
  · obtain ⟨p, m, z, rfl, W, hn, hz, q⟩ := h
    refine ⟨_, (pss_cons (ps_if (pt_not (pt_val (C8.pe_c (cal_is_name T) hr (by decide) rfl (pa_cons (pv 1) pa_nil)))) (pss_one ps_never) pss_nil)
      (pss_one (ps_if (pt_cmpR op_in_seq (pv 1) (C8.pe_mt0 (met_Web_points T) hr (by decide) (pv 0)) (by rfl)) (pss_one ps_never) pss_nil))), ?_⟩
    refine ⟨_, rfl, z, rfl, hn, fun H1 s1 => ⟨_, rfl, iteF ?_⟩⟩
    have W1 := W.same s1
    obtain ⟨dx, a, b, c, ws, bs, h1, _⟩ := W1.ex
    refine ⟨_, rfl, _, rfl, p, dx, _, rfl, h1, wf_no (by decide +kernel), p, m, rfl, W1, fun k H2 s2 nk ek => ?_⟩
    refine ⟨k, _, rfl, .inl (.inl (.inl ek)), rfl, flat_strs _, _, rfl, ?_⟩
    show if inV (.str z) (m.pts.map V.str) = true then _ else _
    rw [in_strs, decide_eq_false hz]
    exact iteF (q H2 (s1.trans s2))
def sp_need_point (K : PySem.W.Frag) : Sp := fun vs H Q _ => ∃ (p : Addr) (m : Md) (z : Str), vs = [.ref p, .str z] ∧ WebAt (CW K) H p m ∧ z ∈ m.pts ∧ ∀ H', Same H H' → Q .non H'
theorem cal_need_point (T : Tp K mg) : Cal P w K mg base 4 "need_point" (sp_need_point K) := by
  obtain ⟨fd, F⟩ := f_need_point T
  refine cal_of F (g_need_point T) (b_need_point F) sc_need_point (fun vs H Q E h => ?_) (fun cdv A outer s H vs Q E hr h => ?_)
  · obtain ⟨p, m, z, rfl, _⟩ := h
    rfl
  · obtain ⟨p, m, z, rfl, W, hz, q⟩ := h
    obtain ⟨dx, a, b, c, ws, bs, h1, _⟩ := W.ex
    refine ⟨_, (pss_one (ps_if (pt_not (pt_val (C8.pe_c (cal_is_one_of T) hr (by decide) rfl (pa_cons (pv 1) (pa_cons (C8.pe_mt0 (met_Web_points T) hr (by decide) (pv 0)) pa_nil))))) (pss_one ps_never) pss_nil)), ?_⟩
    refine ⟨_, rfl, _, rfl, p, dx, _, rfl, h1, wf_no (by decide +kernel), p, m, rfl, W, fun k H2 s2 nk ek => ?_⟩
    refine ⟨z, k, _, rfl, ek, _, rfl, ?_⟩
    rw [decide_eq_true hz]
    exact iteF (q H2 s2)
/-! ### __len__ -/
def sp_len (K : PySem.W.Frag) : Sp := fun vs H Q _ => ∃ (p : Addr) (m : Md), vs = [.ref p] ∧ WebAt (CW K) H p m ∧ ∀ H', Same H H' → Q (.int (m.pts.length : Nat)) H'
theorem met_Web_UlenU (T : Tp K mg) : Met P w K mg base 4 (CW K) "__len__" (sp_len K) := by
  obtain ⟨fd, F⟩ := f_Web_UlenU T
  refine met_of F (cl_Web T) (me_Web_UlenU T) (b_Web_UlenU F) sc_Web_UlenU (fun vs H Q E h => ?_) (fun cdv A outer s H vs Q E hr h => ?_)
  · obtain ⟨p, m, rfl, _⟩ := h
    rfl
  · obtain ⟨p, m, rfl, W, q⟩ := h
    obtain ⟨dx, a, b, c, ws, bs, h1, _⟩ := W.ex
    refine ⟨_, (pss_one (ps_ret (pe_callB call_len_seq (by rfl) (z_len T) bb_len (pa_cons (C8.pe_mt0 (met_Web_points T) hr (by decide) (pv 0)) pa_nil)))), ?_⟩
    refine ⟨_, rfl, p, dx, _, rfl, h1, wf_no (by decide +kernel), p, m, rfl, W, fun k H2 s2 nk ek => ⟨k, _, rfl, .inl (.inl (.inl ek)), ?_⟩⟩
    rw [List.length_map]
    exact q H2 s2
theorem pts_len {C : Addr} {H : Hp} {p : Addr} {m : Md} (W : WebAt C H p m) : m.pts.length ≤ 15 := by
  have h := W.len
  unfold Md.pts
  rw [List.length_cons, List.length_append, List.length_map]
  omega
/-! ### __repr__ -/
def num (i : Int) : Str := (toString i : String)
theorem num_len : ∀ n : Fin 1001, (num ((n : Nat) : Int)).length ≤ 4 := by decide +kernel
theorem num_le {i : Int} (h0 : 0 ≤ i) (h1 : i ≤ 1000) : (num i).length ≤ 4 := by
  have h := num_len ⟨i.toNat, by omega⟩
  rw [show (((⟨i.toNat, by omega⟩ : Fin 1001) : Nat) : Int) = i from Int.toNat_of_nonneg h0] at h
  exact h
theorem num_log {i : Int} (h0 : 0 ≤ i) (h1 : i ≤ 1000) : i.natAbs.log2 < 1920 := by
  have h : i.natAbs < 2 ^ 1920 := Nat.lt_of_lt_of_le (show i.natAbs < 1024 by omega) (by decide +kernel)
  by_cases hz : i.natAbs = 0
  · rw [hz]
    decide
  · exact (Nat.log2_lt hz).mpr h
def webText (m : Md) : Str := ((((((Str.empty ++ ("Web(" : Str)) ++ num (m.pts.length : Nat)) ++ (" points, " : Str)) ++ num (m.bd.length : Nat)) ++ (" ties, by " : Str)) ++ num m.last) ++ (")" : Str)
theorem short {z : Str} {n : Nat} (h : z.length ≤ n) (hn : n ≤ 1000) : z.length ≤ sizeLine := Nat.le_of_lt (small1000 (Nat.le_trans h hn))
theorem app_le {a b : Str} {m n : Nat} (ha : a.length ≤ m) (hb : b.length ≤ n) : (a ++ b).length ≤ m + n := by
  rw [Str.length_append]
  omega
def sp_repr (K : PySem.W.Frag) : Sp := fun vs H Q _ => ∃ (p : Addr) (m : Md), vs = [.ref p] ∧ WebAt (CW K) H p m ∧ ∀ H', Same H H' → Q (.str (webText m)) H'
theorem met_Web_UreprU (T : Tp K mg) : Met P w K mg base 6 (CW K) "__repr__" (sp_repr K) := by
  obtain ⟨fd, F⟩ := f_Web_UreprU T
  refine met_of F (cl_Web T) (me_Web_UreprU T) (b_Web_UreprU F) sc_Web_UreprU (fun vs H Q E h => ?_) (fun cdv A outer s H vs Q E hr h => ?_)
  · obtain ⟨p, m, rfl, _⟩ := h
    rfl
  · obtain ⟨p, m, rfl, W, q⟩ := h
    obtain ⟨dx, a, b, c, ws, bs, h1, _⟩ := W.ex
    have hp := pts_len W
    have hl := W.len
    have hla := W.last
    refine ⟨_, (pss_one (ps_ret (pe_joined (.cons pe_str (.cons (pe_fmt (pe_callB (call_lenO (met_Web_UlenU T) hr (by decide)) (by rfl) (z_len T) bb_len (pa_cons (pv 0) pa_nil))) (.cons pe_str (.cons (pe_fmt (pe_callB call_len_seq (by rfl) (z_len T) bb_len (pa_cons (pe_fld (pv 0) rfl) pa_nil))) (.cons pe_str (.cons (pe_fmt (pe_fld (pv 0) rfl)) (.cons pe_str .nil)))))))))), ?_⟩
    have l0 : (Str.empty ++ ("Web(" : Str)).length ≤ 4 := by decide +kernel
    have l1 := app_le l0 (num_le (i := (m.pts.length : Nat)) (by omega) (by omega))
    have l2 := app_le l1 (show (" points, " : Str).length ≤ 9 by decide +kernel)
    have l3 := app_le l2 (num_le (i := (m.bd.length : Nat)) (by omega) (by omega))
    have l4 := app_le l3 (show (" ties, by " : Str).length ≤ 10 by decide +kernel)
    have l5 := app_le l4 (num_le (i := m.last) (by omega) (by omega))
    have l6 := app_le l5 (show (")" : Str).length ≤ 1 by decide +kernel)
    refine ⟨("Web(" : Str), rfl, short l0 (by decide), _, rfl, p, dx, _, rfl, h1, p, m, rfl, W, fun H2 s2 => ⟨_, rfl, by omega, by omega, .inr ⟨_, rfl, num_log (by omega) (by omega), _, rfl, short l1 (by decide), ?_⟩⟩⟩
    have W2 := W.same s2
    obtain ⟨dx2, a2, b2, c2, ws2, bs2, g1, g2, g3, g4, g5, g6⟩ := W2.ex
    have hb2 : bs2.length = m.bd.length := by rw [g6.len, List.length_map]
    refine ⟨_, rfl, short l2 (by decide), _, rfl, p, CW K, dx2, _, _, rfl, g1, cl_Web T, na_tie_rows T, wf_t, c2, _, rfl, .inr (.inl (.inl g5)), .inr ⟨_, rfl, num_log (by omega) (by omega), _, rfl, ?_, ?_⟩⟩
    · rw [hb2]
      exact short l3 (by decide)
    · rw [hb2]
      refine ⟨_, rfl, short l4 (by decide), _, rfl, p, CW K, dx2, _, _, rfl, g1, cl_Web T, na_by T, wf_by, .inr ⟨_, rfl, num_log (by omega) (by omega), _, rfl, short l5 (by decide), _, rfl, short l6 (by decide), ?_⟩⟩
      exact q H2 s2
end
end Tw

set_option maxHeartbeats 4000000
namespace Tw
open PySem PySem.Spec PyProof.Rows L2
theorem wh_int {lo hi : Int} {v : V} (h : whB lo hi v = true) : ∃ i : Int, v = .int i ∧ lo ≤ i ∧ i ≤ hi := by
  cases v with
  | int j =>
    have hj := of_decide_eq_true (show decide (lo ≤ j ∧ j ≤ hi) = true from h)
    exact ⟨j, rfl, hj.1, hj.2⟩
  | non => cases h
  | bl b => cases h
  | str z => cases h
  | byt b => cases h
  | flt b => cases h
  | ref b => cases h
  | ty b => cases h
/-- the two lengths are good -/
def lenB (a b : V) : Bool := whB 1 1000 a && match a with
  | .int i => whB i 1000 b
  | _ => false
def lateB (h : V) : Bool := decide (h = .non) || whB 0 1000 h
theorem len_ok {a b : V} (h : lenB a b = true) : ∃ i j : Int, a = .int i ∧ b = .int j ∧ 1 ≤ i ∧ i ≤ j ∧ j ≤ 1000 := by
  obtain ⟨h1, h2⟩ := Bool.and_eq_true_iff.mp h
  obtain ⟨i, rfl, i1, _⟩ := wh_int h1
  obtain ⟨j, rfl, j1, j2⟩ := wh_int (show whB i 1000 b = true from h2)
  exact ⟨i, j, rfl, rfl, i1, j1, j2⟩
theorem late_ok {h : V} (e : lateB h = true) : ∃ o : Option Int, h = oV o ∧ ∀ i, o = some i → 0 ≤ i ∧ i ≤ 1000 := by
  by_cases hn : h = .non
  · exact ⟨none, hn, fun i z => by cases z⟩
  · unfold lateB at e
    rw [decide_eq_false hn, Bool.false_or] at e
    obtain ⟨i, rfl, h1, h2⟩ := wh_int e
    exact ⟨some i, rfl, fun j z => by cases z; exact ⟨h1, h2⟩⟩
section
variable {P : Program} {w : World} {K : PySem.W.Frag} {mg : Str → Option Value} {base : Heap}
/-! ### are_lengths, is_lateness -/
def sp_are_lengths : Sp := fun vs H Q _ => ∃ a b : V, vs = [a, b] ∧ (plK a).isSome = true ∧ (plK b).isSome = true ∧ Q (.bl (lenB a b)) H
theorem cal_are_lengths (T : Tp K mg) : Cal P w K mg base 3 "are_lengths" sp_are_lengths := by
  obtain ⟨fd, F⟩ := f_are_lengths T
  refine cal_of F (g_are_lengths T) (b_are_lengths F) sc_are_lengths (fun vs H Q E h => ?_) (fun cdv A outer s H vs Q E hr h => ?_)
  · obtain ⟨a, b, rfl, _⟩ := h
    rfl
  · obtain ⟨a, b, rfl, pa, pb, q⟩ := h
    refine ⟨_, (pss_one (ps_ret (pe_and (C8.pe_c (cal_iswh T) hr (by decide) rfl (pa_cons (pv 0) (pa_cons pe_int (pa_cons (C8.pe_gc (by rfl) (c_MOST_LENGTH T)) pa_nil)))) (pe_one (C8.pe_c (cal_iswh T) hr (by decide) rfl (pa_cons (pv 1) (pa_cons (pv 0) (pa_cons (C8.pe_gc (by rfl) (c_MOST_LENGTH T)) pa_nil)))))))), ?_⟩
    refine ⟨_, rfl, a, 1, 1000, rfl, pa, _, rfl, ?_⟩
    cases ha : whB 1 1000 a with
    | false =>
      refine iteF ?_
      have e : lenB a b = false := by
        unfold lenB
        rw [ha, Bool.false_and]
      rw [e] at q
      exact q
    | true =>
      obtain ⟨i, rfl, i1, i2⟩ := wh_int ha
      refine iteT ⟨_, rfl, _, rfl, b, i, 1000, rfl, pb, ?_⟩
      have e : lenB (.int i) b = whB i 1000 b := by
        show (whB 1 1000 (.int i) && whB i 1000 b) = _
        rw [ha, Bool.true_and]
      rw [e] at q
      exact q
def sp_is_lateness : Sp := fun vs H Q _ => ∃ h : V, vs = [h] ∧ (plK h).isSome = true ∧ Q (.bl (lateB h)) H
theorem cal_is_lateness (T : Tp K mg) : Cal P w K mg base 3 "is_lateness" sp_is_lateness := by
  obtain ⟨fd, F⟩ := f_is_lateness T
  refine cal_of F (g_is_lateness T) (b_is_lateness F) sc_is_lateness (fun vs H Q E h => ?_) (fun cdv A outer s H vs Q E hr h => ?_)
  · obtain ⟨h, rfl, _⟩ := h
    rfl
  · obtain ⟨h, rfl, ph, q⟩ := h
    refine ⟨_, (pss_one (ps_ret (pe_or (pe_cmpR op_isN (pv 0) pe_non (nomark _)) (pe_one (C8.pe_c (cal_iswh T) hr (by decide) rfl (pa_cons (pv 0) (pa_cons pe_int (pa_cons (C8.pe_gc (by rfl) (c_MOST_LATE T)) pa_nil)))))))), ?_⟩
    refine ⟨_, rfl, rfl, _, rfl, ?_⟩
    unfold lateB at q
    by_cases hn : h = .non
    · rw [decide_eq_true hn] at q ⊢
      exact iteT q
    · rw [decide_eq_false hn, Bool.false_or] at q
      rw [decide_eq_false hn]
      exact iteF ⟨_, rfl, h, 0, 1000, rfl, ph, q⟩
end
section
variable {P : Program} {w : World} {K : PySem.W.Frag} {mg : Str → Option Value} {base : Heap}
/-! ### with_moment -/
def Md.addM (m : Md) (z : Str) : Md := { m with own := m.own ++ [z] }
def Md.addS (m : Md) (x : Wd) : Md := { m with wd := m.wd ++ [x] }
def Md.addT (m : Md) (x : Bd) : Md := { m with bd := m.bd ++ [x] }
def sp_with_moment (K : PySem.W.Frag) : Sp := fun vs H Q _ => ∃ (p : Addr) (m : Md) (z : Str), vs = [.ref p, .str z] ∧ WebAt (CW K) H p m ∧ Nm z ∧ ¬ z ∈ m.pts ∧ m.own.length < 10 ∧ ∀ (q : Addr) (H' : Hp), Same H H' → H q = none → WebAt (CW K) H' q (m.addM z) → Q (.ref q) H'
theorem met_Web_with_moment (T : Tp K mg) : Met P w K mg base 6 (CW K) "with_moment" (sp_with_moment K) := by
  obtain ⟨fd, F⟩ := f_Web_with_moment T
  refine met_of F (cl_Web T) (me_Web_with_moment T) (b_Web_with_moment F) sc_Web_with_moment (fun vs H Q E h => ?_) (fun cdv A outer s H vs Q E hr h => ?_)
  · obtain ⟨p, m, z, rfl, _⟩ := h
    rfl
  · obtain ⟨p, m, z, rfl, W, hn, hz, hl, q⟩ := h
    refine ⟨_, (pss_cons (ps_expr (C8.pe_c (cal_need_free_name T) hr (by decide) rfl (pa_cons (pv 0) (pa_cons (pv 1) pa_nil))))
      (pss_cons (ps_if (pt_cmpR op_ge (pe_callB call_len_seq (by rfl) (z_len T) bb_len (pa_cons (pe_fld (pv 0) rfl) pa_nil)) (C8.pe_gc (by rfl) (c_MOST_MOMENTS T)) (nomark _)) (pss_one ps_never) pss_nil)
      (pss_one (ps_ret (C8.pe_c (cal_woven T) hr (by decide) rfl (pa_cons (pe_fld (pv 0) rfl) (pa_cons (pe_tup (StX.pa_star (pe_fld (pv 0) rfl) (pa_cons (pv 1) pa_nil))) (pa_cons (pe_fld (pv 0) rfl) (pa_cons (pe_fld (pv 0) rfl) pa_nil))))))))), ?_⟩
    refine ⟨_, rfl, _, rfl, p, m, z, rfl, W, hn, hz, fun H1 s1 => ?_⟩
    have W1 := W.same s1
    obtain ⟨dx, a, b, c, ws, bs, h1, h2, h3, h4, h5, h6⟩ := W1.ex
    have hlen := W.len
    refine ⟨_, rfl, p, CW K, dx, _, _, rfl, h1, cl_Web T, na_moment_rows T, wf_m, a, _, rfl, .inr (.inl (.inl h2)), _, _, rfl, rfl, _, rfl, ?_⟩
    rw [decide_eq_false (by rw [List.length_map]; omega)]
    refine iteF ?_
    refine ⟨_, rfl, p, CW K, dx, _, _, rfl, h1, cl_Web T, na_by T, wf_by, _, rfl, p, CW K, dx, _, _, rfl, h1, cl_Web T, na_moment_rows T, wf_m, a, _, rfl, .inl (.inl (.inl h2)), _, rfl, ?_, fun t nt => ?_⟩
    · rw [List.length_append, List.length_map]
      exact Nat.le_of_lt (small1000 (by show _ + 1 ≤ 1000; omega))
    · have s2 := same_upd (o := .tup (m.own.map V.str ++ [.str z])) nt
      refine ⟨_, rfl, p, CW K, dx, _, _, rfl, s2 _ _ h1, cl_Web T, na_span_rows T, wf_s, _, rfl, p, CW K, dx, _, _, rfl, s2 _ _ h1, cl_Web T, na_tie_rows T, wf_t, ?_⟩
      refine ⟨m.addM z, t, b, c, ws, bs, rfl, ?_, s2 _ _ h3, h4.keep (Kt.of s2), s2 _ _ h5, h6.keep (Kt.of s2), ⟨?_, hlen.2.1, hlen.2.2⟩, W.last, fun x H2 s3 nx W3 => q x H2 ((s1.trans s2).trans s3) ((s1.trans s2).free nx) W3⟩
      · rw [upd_same]
        show _ = some (HO.tup ((m.own ++ [z]).map V.str))
        rw [List.map_append]
        rfl
      · show (m.own ++ [z]).length ≤ 10
        rw [List.length_append]
        show _ + 1 ≤ 10
        omega
/-! ### with_span -/
structure SpOk (m : Md) (x : Wd) : Prop where
  nm : Nm x.en
  fresh : ¬ x.en ∈ m.pts
  bg : x.bg = "start" ∨ x.bg ∈ m.own
  lo : 1 ≤ x.lo
  hi : x.lo ≤ x.hi
  top : x.hi ≤ 1000
  la : ∀ i, x.la = some i → 0 ≤ i ∧ i ≤ 1000
  few : m.wd.length < 4
def sp_with_span (K : PySem.W.Frag) : Sp := fun vs H Q _ => ∃ (p : Addr) (m : Md) (x : Wd), vs = [.ref p, .str x.en, .str x.bg, .int x.lo, .int x.hi, oV x.la] ∧ WebAt (CW K) H p m ∧ SpOk m x ∧ ∀ (q : Addr) (H' : Hp), Same H H' → H q = none → WebAt (CW K) H' q (m.addS x) → Q (.ref q) H'
theorem met_Web_with_span (T : Tp K mg) : MetN P w K mg base 6 (CW K) "with_span" (sp_with_span K) 5 ["late"] := by
  obtain ⟨fd, F⟩ := f_Web_with_span T
  refine ⟨_, fd, ["self", "end", "begin", "low", "high", "late"], _, cl_Web T, me_Web_with_span T, fnok_of (k := 5) F sc_Web_with_span (fun vs H Q E h => ?_) (fun cdv A outer s H vs Q E hr h => ?_), kbn_of F fun kV doc pm an cdv ct us ws h1 h2 => match us, ws, h1, h2 with
    | [_, _, _, _, _], [_], _, _ => rfl⟩
  · obtain ⟨p, m, x, rfl, _⟩ := h
    rfl
  · obtain ⟨p, m, x, rfl, W, S, q⟩ := h
    refine ⟨_, (pss_cons (ps_expr (C8.pe_c (cal_need_free_name T) hr (by decide) rfl (pa_cons (pv 0) (pa_cons (pv 1) pa_nil))))
      (pss_cons (ps_if (pt_not (pt_val (C8.pe_c (cal_is_begin T) hr (by decide) rfl (pa_cons (pv 0) (pa_cons (pv 2) pa_nil))))) (pss_one ps_never) pss_nil)
      (pss_cons (ps_if (pt_not (pt_val (C8.pe_c (cal_are_lengths T) hr (by decide) rfl (pa_cons (pv 3) (pa_cons (pv 4) pa_nil))))) (pss_one ps_never) pss_nil)
      (pss_cons (ps_if (pt_not (pt_val (C8.pe_c (cal_is_lateness T) hr (by decide) rfl (pa_cons (pv 5) pa_nil)))) (pss_one ps_never) pss_nil)
      (pss_cons (ps_if (pt_cmpR op_ge (pe_callB call_len_seq (by rfl) (z_len T) bb_len (pa_cons (pe_fld (pv 0) rfl) pa_nil)) (C8.pe_gc (by rfl) (c_MOST_SPANS T)) (nomark _)) (pss_one ps_never) pss_nil)
      (pss_cons (ps_set (i := 6) sc_Web_with_span.nd rfl (.inl rfl) (pe_tup (pa_cons (pv 1) (pa_cons (pv 2) (pa_cons (pv 3) (pa_cons (pv 4) (pa_cons (pv 5) pa_nil)))))))
      (pss_one (ps_ret (C8.pe_c (cal_woven T) hr (by decide) rfl (pa_cons (pe_fld (pv 0) rfl) (pa_cons (pe_fld (pv 0) rfl) (pa_cons (pe_tup (StX.pa_star (pe_fld (pv 0) rfl) (pa_cons (pv 6) pa_nil))) (pa_cons (pe_fld (pv 0) rfl) pa_nil))))))))))))), ?_⟩
    have hlen := W.len
    have few := S.few
    refine ⟨_, rfl, _, rfl, p, m, x.en, rfl, W, S.nm, S.fresh, fun H1 s1 => ?_⟩
    refine ⟨_, rfl, _, rfl, p, m, x.bg, rfl, W.same s1, S.bg, fun H2 s2 => ⟨_, rfl, iteF ?_⟩⟩
    have W2 := (W.same s1).same s2
    refine ⟨_, rfl, _, rfl, .int x.lo, .int x.hi, rfl, rfl, rfl, _, rfl, ?_⟩
    have eL : lenB (.int x.lo) (.int x.hi) = true := by
      show (decide (1 ≤ x.lo ∧ x.lo ≤ 1000) && decide (x.lo ≤ x.hi ∧ x.hi ≤ 1000)) = true
      rw [decide_eq_true ⟨S.lo, Int.le_trans S.hi S.top⟩, decide_eq_true ⟨S.hi, S.top⟩]
      rfl
    have eH : (plK (oV x.la)).isSome = true ∧ lateB (oV x.la) = true := by
      cases e : x.la with
      | none => exact ⟨rfl, rfl⟩
      | some i =>
        refine ⟨rfl, ?_⟩
        show (decide (V.int i = V.non) || decide (0 ≤ i ∧ i ≤ 1000)) = true
        rw [decide_eq_true (S.la i e), Bool.or_true]
    rw [eL]
    refine iteF ⟨_, rfl, oV x.la, rfl, eH.1, _, rfl, ?_⟩
    rw [eH.2]
    refine iteF ?_
    obtain ⟨dx, a, b, c, ws, bs, h1, h2, h3, h4, h5, h6⟩ := W2.ex
    have hw : ws.length = m.wd.length := by rw [h4.len, List.length_map]
    refine ⟨_, rfl, p, CW K, dx, _, _, rfl, h1, cl_Web T, na_span_rows T, wf_s, b, _, rfl, .inr (.inl (.inl h3)), _, _, rfl, rfl, _, rfl, ?_⟩
    rw [decide_eq_false (by rw [hw]; omega)]
    refine iteF ?_
    refine ⟨_, rfl, _, rfl, _, rfl, _, rfl, _, rfl, (by show 5 ≤ sizeLine; decide), fun t nt => ?_⟩
    have s3 := same_upd (o := .tup x.row) nt
    refine ⟨_, rfl, p, CW K, dx, _, _, rfl, s3 _ _ h1, cl_Web T, na_by T, wf_by, _, rfl, p, CW K, dx, _, _, rfl, s3 _ _ h1, cl_Web T, na_moment_rows T, wf_m, _, rfl, p, CW K, dx, _, _, rfl, s3 _ _ h1, cl_Web T, na_span_rows T, wf_s, b, _, rfl, .inl (.inl (.inl (s3 _ _ h3))), .ref t, rfl, ?_, fun u nu => ?_⟩
    · rw [List.length_append]
      exact Nat.le_of_lt (small1000 (by show _ + 1 ≤ 1000; omega))
    · have s4 := same_upd (o := .tup (ws ++ [.ref t])) nu
      have s5 := s3.trans s4
      refine ⟨_, rfl, p, CW K, dx, _, _, rfl, s5 _ _ h1, cl_Web T, na_tie_rows T, wf_t, ?_⟩
      have rw' : Rows (upd (upd H2 t (.tup x.row)) u (.tup (ws ++ [.ref t]))) (ws ++ [.ref t]) ((m.addS x).wd.map Wd.row) := by
        show Rows _ _ ((m.wd ++ [x]).map Wd.row)
        rw [List.map_append]
        exact (h4.keep (Kt.of s5)).snoc (s4 _ _ upd_same)
      refine ⟨m.addS x, a, u, c, ws ++ [V.ref t], bs, rfl, s5 _ _ h2, upd_same, rw', s5 _ _ h5, h6.keep (Kt.of s5), ⟨hlen.1, ?_, hlen.2.2⟩, W.last, fun y H5 s6 ny W5 => q y H5 (((s1.trans s2).trans s5).trans s6) (((s1.trans s2).trans s5).free ny) W5⟩
      show (m.wd ++ [x]).length ≤ 4
      rw [List.length_append]
      show _ + 1 ≤ 4
      omega
/-! ### with_tie -/
structure TiOk (m : Md) (x : Bd) : Prop where
  one : x.one ∈ m.pts
  oth : x.oth ∈ m.pts
  ne : ¬ x.one = x.oth
  b : BOk x.bot x.top
  few : m.bd.length < 40
def sp_with_tie (K : PySem.W.Frag) : Sp := fun vs H Q _ => ∃ (p : Addr) (m : Md) (x : Bd), vs = [.ref p, .str x.one, .str x.oth, oV x.bot, oV x.top] ∧ WebAt (CW K) H p m ∧ TiOk m x ∧ ∀ (q : Addr) (H' : Hp), Same H H' → H q = none → WebAt (CW K) H' q (m.addT x) → Q (.ref q) H'
theorem met_Web_with_tie (T : Tp K mg) : MetN P w K mg base 6 (CW K) "with_tie" (sp_with_tie K) 3 ["least", "most"] := by
  obtain ⟨fd, F⟩ := f_Web_with_tie T
  refine ⟨_, fd, ["self", "one", "other", "least", "most"], _, cl_Web T, me_Web_with_tie T, fnok_of (k := 5) F sc_Web_with_tie (fun vs H Q E h => ?_) (fun cdv A outer s H vs Q E hr h => ?_), kbn_of F fun kV doc pm an cdv ct us ws h1 h2 => match us, ws, h1, h2 with
    | [_, _, _], [_, _], _, _ => rfl⟩
  · obtain ⟨p, m, x, rfl, _⟩ := h
    rfl
  · obtain ⟨p, m, x, rfl, W, S, q⟩ := h
    refine ⟨_, (pss_cons (ps_expr (C8.pe_c (cal_need_point T) hr (by decide) rfl (pa_cons (pv 0) (pa_cons (pv 1) pa_nil))))
      (pss_cons (ps_expr (C8.pe_c (cal_need_point T) hr (by decide) rfl (pa_cons (pv 0) (pa_cons (pv 2) pa_nil))))
      (pss_cons (ps_if (PW.pt (pw_or (pt_cmpR op_eq (pv 1) (pv 2) (nomark _)) (pw_or1 (pt_not (pt_val (C8.pe_c (cal_are_bounds T) hr (by decide) rfl (pa_cons (pv 3) (pa_cons (pv 4) pa_nil)))))))) (pss_one ps_never) pss_nil)
      (pss_cons (ps_if (pt_cmpR op_ge (pe_callB call_len_seq (by rfl) (z_len T) bb_len (pa_cons (pe_fld (pv 0) rfl) pa_nil)) (C8.pe_gc (by rfl) (c_MOST_TIES T)) (nomark _)) (pss_one ps_never) pss_nil)
      (pss_cons (ps_set (i := 5) sc_Web_with_tie.nd rfl (.inl rfl) (pe_tup (pa_cons (pv 1) (pa_cons (pv 2) (pa_cons (pv 3) (pa_cons (pv 4) pa_nil))))))
      (pss_one (ps_ret (C8.pe_c (cal_woven T) hr (by decide) rfl (pa_cons (pe_fld (pv 0) rfl) (pa_cons (pe_fld (pv 0) rfl) (pa_cons (pe_fld (pv 0) rfl) (pa_cons (pe_tup (StX.pa_star (pe_fld (pv 0) rfl) (pa_cons (pv 5) pa_nil))) pa_nil)))))))))))), ?_⟩
    have hlen := W.len
    have few := S.few
    refine ⟨_, rfl, _, rfl, p, m, x.one, rfl, W, S.one, fun H1 s1 => ?_⟩
    refine ⟨_, rfl, _, rfl, p, m, x.oth, rfl, W.same s1, S.oth, fun H2 s2 => ?_⟩
    have W2 := (W.same s1).same s2
    refine ⟨_, rfl, _, rfl, rfl, _, rfl, ?_⟩
    rw [decide_eq_false (show ¬ V.str x.one = V.str x.oth from fun e => S.ne (V.str.inj e))]
    refine iteF ⟨_, rfl, _, rfl, x.bot, x.top, rfl, S.b, fun H3 s3 => ⟨_, rfl, iteF ?_⟩⟩
    have W3 := W2.same s3
    obtain ⟨dx, a, b, c, ws, bs, h1, h2, h3, h4, h5, h6⟩ := W3.ex
    have hb : bs.length = m.bd.length := by rw [h6.len, List.length_map]
    refine ⟨_, rfl, p, CW K, dx, _, _, rfl, h1, cl_Web T, na_tie_rows T, wf_t, c, _, rfl, .inr (.inl (.inl h5)), _, _, rfl, rfl, _, rfl, ?_⟩
    rw [decide_eq_false (by rw [hb]; omega)]
    refine iteF ?_
    refine ⟨_, rfl, _, rfl, _, rfl, _, rfl, (by show 4 ≤ sizeLine; decide), fun t nt => ?_⟩
    have s4 := same_upd (o := .tup x.row) nt
    refine ⟨_, rfl, p, CW K, dx, _, _, rfl, s4 _ _ h1, cl_Web T, na_by T, wf_by, _, rfl, p, CW K, dx, _, _, rfl, s4 _ _ h1, cl_Web T, na_moment_rows T, wf_m, _, rfl, p, CW K, dx, _, _, rfl, s4 _ _ h1, cl_Web T, na_span_rows T, wf_s, _, rfl, p, CW K, dx, _, _, rfl, s4 _ _ h1, cl_Web T, na_tie_rows T, wf_t, c, _, rfl, .inl (.inl (.inl (s4 _ _ h5))), .ref t, rfl, ?_, fun u nu => ?_⟩
    · rw [List.length_append]
      exact Nat.le_of_lt (small1000 (by show _ + 1 ≤ 1000; omega))
    · have s5 := same_upd (o := .tup (bs ++ [.ref t])) nu
      have s6 := s4.trans s5
      have rb' : Rows (upd (upd H3 t (.tup x.row)) u (.tup (bs ++ [.ref t]))) (bs ++ [.ref t]) ((m.addT x).bd.map Bd.row) := by
        show Rows _ _ ((m.bd ++ [x]).map Bd.row)
        rw [List.map_append]
        exact (h6.keep (Kt.of s6)).snoc (s5 _ _ upd_same)
      have sa := ((s1.trans s2).trans s3).trans s6
      refine ⟨m.addT x, a, b, u, ws, bs ++ [V.ref t], rfl, s6 _ _ h2, s6 _ _ h3, h4.keep (Kt.of s6), upd_same, rb', ⟨hlen.1, hlen.2.1, ?_⟩, W.last, fun y H5 s7 ny W5 => q y H5 (sa.trans s7) (sa.free ny) W5⟩
      show (m.bd ++ [x]).length ≤ 40
      rw [List.length_append]
      show _ + 1 ≤ 40
      omega
end
end Tw

set_option maxHeartbeats 4000000
namespace Tw
open PySem PySem.Spec PyProof.Rows L2
section
variable {P : Program} {w : World} {K : PySem.W.Frag} {mg : Str → Option Value} {base : Heap}
theorem fn_TideError (T : Tp K mg) {fd : FuncData} (F : FunD K "__init__" "TideError.__init__" (defArgs s_TideError_UinitU) (defBody s_TideError_UinitU) (defScope s_TideError_UinitU) [V.str "TideError", V.str "refused"] [] (He.ma K (He.ga K "TideError") "__init__") fd) : FnOk P w K mg base CX0 2 (He.ma K (He.ga K "TideError") "__init__") fd ["self", "word", "why"] (sp_miss bVE K) := by
  refine fnok_of F sc_TideError_UinitU (fun vs H Q E h => ?_) (fun cdv A outer s H vs Q E hr h => ?_)
  · obtain ⟨a, C, u, y, rfl, _⟩ := h
    rfl
  · obtain ⟨a, C, u, y, rfl, O, nw, ha, lu, ly, q⟩ := h
    refine ⟨_, (pss_cons (ps_expr (pe_binit bVE_ok bb_ValueError rfl (z_ValueError T) (vi_ValueError T) rfl (pa_cons (pv 0) (pa_cons (pe_joined (.cons (pe_fmt (pv 1)) (.cons pe_str (.cons (pe_fmt (pv 2)) .nil)))) pa_nil))))
      (pss_one (ps_ox (b := bVE) (pv 0) (pv 1)))), ?_⟩
    have l1 : (Str.empty ++ u).length ≤ 0 + 100 := app_le (show Str.empty.length ≤ 0 by decide) lu
    have l2 := app_le l1 (show (": " : Str).length ≤ 2 by decide +kernel)
    have l3 := app_le l2 ly
    refine ⟨_, rfl, _, rfl, .inl ⟨u, rfl, short (show u.length ≤ 100 from lu) (by decide), u, rfl, short l1 (by decide), _, rfl, short l2 (by decide), _, rfl, .inl ⟨y, rfl, short (show y.length ≤ 100 from ly) (by decide), y, rfl, short l3 (by decide), ?_⟩⟩⟩
    refine ⟨a, C, _, rfl, by show 1 ≤ 1000; decide, O, ha, ?_⟩
    exact ⟨_, rfl, _, rfl, a, C, rfl, O, nw, .inl ⟨ha, q⟩⟩
theorem b_TideError {fd : FuncData} (F : FunD K "__init__" "TideError.__init__" (defArgs s_TideError_UinitU) (defBody s_TideError_UinitU) (defScope s_TideError_UinitU) [V.str "TideError", V.str "refused"] [] (He.ma K (He.ga K "TideError") "__init__") fd) : Binds K fd ["self", "word", "why"] [] := by
  obtain ⟨ds, hv, hb⟩ := F.binds1 (ps := ["self", "word", "why"]) 3 2 (by simp) rfl fun T kV doc pm an cdv ct us its h1 h2 => match us, its, h1, h2 with
    | [_, _, _], [_, _], _, _ => ⟨_, rfl, rfl⟩
  have hv : Vals [] ds := hv
  cases hv
  exact hb
theorem mkx_BadPaper (T : Tp K mg) : MkB bVE P w K mg base 3 "BadPaper" (He.ga K "BadPaper") (sp_exc1 K (He.ga K "BadPaper") "BadPaper" "row") := by
  obtain ⟨fd, F⟩ := f_BadPaper_UinitU T
  obtain ⟨fdT, FT⟩ := f_TideError_UinitU T
  have F1 := fn_TideError (P := P) (w := w) (base := base) T FT
  have kp := FT.kp
  have b1 := b_TideError FT
  refine ⟨_, fd, ["self", "row"], oe_BadPaper T, in_BadPaper T, fnok_of F sc_BadPaper_UinitU (fun vs H Q E h => ?_) (fun cdv A outer s H vs Q E hr h => ?_), g_BadPaper T, b_BadPaper_UinitU F⟩
  · obtain ⟨a, v, rfl, _⟩ := h
    rfl
  · obtain ⟨a, v, rfl, ha, q⟩ := h
    refine ⟨_, (pss_cons (ps_expr (pe_ci (cd_TideError T) rfl (g_TideError T) kp F1 hr (by decide) b1 (pa_cons (pv 0) (pa_cons pe_str (pa_cons pe_str pa_nil)))))
      (pss_one (ps_ox (b := bVE) (pv 0) (pv 1)))), ?_⟩
    refine ⟨_, rfl, a, He.ga K "BadPaper", _, _, rfl, oe_BadPaper T, nf_BadPaper_word T, ha, by decide +kernel, by decide +kernel, fun d nd da => ?_⟩
    refine ⟨_, rfl, _, rfl, a, He.ga K "BadPaper", rfl, oe_BadPaper T, nf_BadPaper_row T, .inr ⟨d, _, upd_same, by rw [upd_ne da]; exact upd_same, by show 1 ≤ 900; decide, ?_⟩⟩
    refine q d _ nd da (fun b h1 h2 => ?_) ?_ upd_same
    · rw [upd_ne h2, upd_ne h1, upd_ne h2]
    · rw [upd_ne (Ne.symm da)]
      exact upd_same
end
end Tw

set_option maxHeartbeats 4000000
namespace Tw
open PySem PySem.Spec PyProof.Rows L2
/-! ### the law's flow of numbers -/
structure Flow (H : Hp) (f c : Addr) : Prop where
  ex : ∃ (ns : List Int) (i r st : Int), H f = some (.lst [.ref c, .int i, .int r, .int st]) ∧ H c = some (.lst (ns.map V.int)) ∧ 0 ≤ i ∧ 0 ≤ r ∧ 0 ≤ st ∧ st < 2147483647
theorem Flow.lst {H : Hp} {f c : Addr} (h : Flow H f c) : ∃ xs, H f = some (.lst xs) := let ⟨_, _, _, _, e, _⟩ := h.ex; ⟨_, e⟩
theorem Flow.cells {H : Hp} {f c : Addr} (h : Flow H f c) : ∃ xs, H c = some (.lst xs) := let ⟨_, _, _, _, _, e, _⟩ := h.ex; ⟨_, e⟩
theorem Flow.keep {H H' : Hp} {f c : Addr} (h : Flow H f c) (h1 : ∀ o, H f = some o → H' f = some o) (h2 : ∀ o, H c = some o → H' c = some o) : Flow H' f c := by
  obtain ⟨ns, i, r, st, e1, e2, e3⟩ := h.ex
  exact ⟨ns, i, r, st, h1 _ e1, h2 _ e2, e3⟩
theorem Flow.same {H H' : Hp} {f c : Addr} (h : Flow H f c) (s : Same H H') : Flow H' f c := h.keep (fun _ e => s _ _ e) (fun _ e => s _ _ e)
theorem Flow.upd {H : Hp} {f c p : Addr} {o : HO} (h : Flow H f c) (n1 : f ≠ p) (n2 : c ≠ p) : Flow (upd H p o) f c := h.keep (fun _ e => by rw [upd_ne n1]; exact e) (fun _ e => by rw [upd_ne n2]; exact e)
theorem flow_ne {H : Hp} {f c : Addr} {i r st : Int} {ns : List Int} (h1 : H f = some (.lst [.ref c, .int i, .int r, .int st])) (h2 : H c = some (.lst (ns.map V.int))) : c ≠ f := by
  refine ne_of h2 h1 fun e => ?_
  have e := HO.lst.inj e
  cases ns with
  | nil => cases e
  | cons x l =>
    have e1 := (List.cons.inj e).1
    cases e1
theorem Flow.put {H : Hp} {f c : Addr} {i r st : Int} {ns : List Int} (h1 : H f = some (.lst [.ref c, .int i, .int r, .int st])) (h2 : H c = some (.lst (ns.map V.int))) {i' r' st' : Int} (a : 0 ≤ i') (b : 0 ≤ r') (d : 0 ≤ st') (e : st' < 2147483647) :
    Flow (L2.upd H f (.lst [.ref c, .int i', .int r', .int st'])) f c := ⟨ns, i', r', st', upd_same, by rw [upd_ne (flow_ne h1 h2)]; exact h2, a, b, d, e⟩
theorem cut_ints (ns : List Int) (lo hi : Option Int) : ∃ ms : List Int, cutV (ns.map V.int) lo hi = ms.map V.int := by
  unfold cutV
  refine ⟨(ns.drop (HT.sIx (ns.map V.int).length 0 lo)).take (HT.sIx (ns.map V.int).length (ns.map V.int).length hi - HT.sIx (ns.map V.int).length 0 lo), ?_⟩
  rw [List.map_take, List.map_drop]
theorem fm_lo (x : Int) {n : Int} (h : 0 < n) : 0 ≤ x.fmod n := by
  rw [Int.fmod_eq_emod_of_nonneg _ (Int.le_of_lt h)]
  exact Int.emod_nonneg _ (Int.ne_of_gt h)
theorem fm_hi (x : Int) {n : Int} (h : 0 < n) : x.fmod n < n := by
  rw [Int.fmod_eq_emod_of_nonneg _ (Int.le_of_lt h)]
  exact Int.emod_lt_of_pos _ h
theorem fd_lo {x n : Int} (hx : 0 ≤ x) (h : 0 < n) : 0 ≤ x.fdiv n := by
  rw [Int.fdiv_eq_ediv_of_nonneg _ (Int.le_of_lt h)]
  exact Int.ediv_nonneg hx (Int.le_of_lt h)
theorem abs_lo (x : Int) : (0 : Int) ≤ if x < 0 then -x else x := by
  split <;> omega
section
variable {P : Program} {w : World} {K : PySem.W.Frag} {mg : Str → Option Value} {base : Heap}
def CDivX (_ j : Int) : Prop := j ≠ 0 ∧ j.natAbs.log2 < 9000
theorem op_fdivX {X : Cx} : OpR X (binaryOp .FloorDiv) (rI CDivX fun i j => .int (i.fdiv j)) := opI fun _ _ _ _ _ _ _ hc q => floordiv_int hc.1 q (.inl (PyProof.noPylong_of_log2 hc.2))
theorem big_log {n : Int} (h1 : n < 1606938044258990275541962092341162602522202993782792835301376) (h0 : 0 < n) : n.natAbs.log2 < 9000 := by
  have h : n.natAbs < 2 ^ 200 := by
    have e : (2 : Nat) ^ 200 = 1606938044258990275541962092341162602522202993782792835301376 := by decide +kernel
    rw [e]
    omega
  exact Nat.lt_trans ((Nat.log2_lt (by omega)).mpr h) (by decide)
def sp_flow (K : PySem.W.Frag) : Sp := fun vs H Q _ => ∃ (a : Addr) (ns : List Int), vs = [.ref a] ∧ SqL K H a (ns.map V.int) ∧ ∀ (f c : Addr) (H' : Hp), Same H H' → H f = none → H c = none → Flow H' f c → Q (.ref f) H'
theorem cal__law_flow (T : Tp K mg) : Cal P w K mg base 2 "_law_flow" (sp_flow K) := by
  obtain ⟨fd, F⟩ := f__law_flow T
  refine cal_of F (g__law_flow T) (b__law_flow F) sc__law_flow (fun vs H Q E h => ?_) (fun cdv A outer s H vs Q E hr h => ?_)
  · obtain ⟨a, ns, rfl, _⟩ := h
    rfl
  · obtain ⟨a, ns, rfl, hS, q⟩ := h
    refine ⟨_, (pss_one (ps_ret (pe_lst (pa_cons (pe_callTy call_list_of (by rfl) (z_list T) bb_list (pa_cons (pe_slice sl_list (pv 0) po_none (po_some pe_int)) pa_nil)) (pa_cons pe_int (pa_cons pe_int (pa_cons pe_int pa_nil))))))), ?_⟩
    refine ⟨_, rfl, 63, rfl, a, _, rfl, hS, fun p np => ?_⟩
    obtain ⟨ms, e⟩ := cut_ints ns none (some 63)
    rw [e]
    have s1 := same_upd (o := .lst (ms.map V.int)) np
    refine ⟨p, _, rfl, .inl (.inl (.inl upd_same)), fun l nl => ?_⟩
    have s2 := same_upd (o := .lst (ms.map V.int)) nl
    refine ⟨by show 4 ≤ sizeLine; decide, fun f nf => ?_⟩
    have s3 := same_upd (o := .lst [.ref l, .int 0, .int 0, .int 11]) nf
    have sa := s1.trans s2
    exact q f l _ (sa.trans s3) (sa.free nf) (s1.free nl) ⟨ms, 0, 0, 11, upd_same, s3 _ _ upd_same, by decide, by decide, by decide, by decide⟩
/-! ### _law_draw -/
def sp_draw : Sp := fun vs H Q _ => ∃ (f c : Addr) (n : Int), vs = [.ref f, .int n] ∧ Flow H f c ∧ 0 < n ∧ n < 1606938044258990275541962092341162602522202993782792835301376 ∧ ∀ (v : Int) (H' : Hp), 0 ≤ v → v < n → Sb f H H' → Flow H' f c → Q (.int v) H'
theorem cal__law_draw (T : Tp K mg) : Cal P w K mg base 2 "_law_draw" sp_draw := by
  obtain ⟨fd, F⟩ := f__law_draw T
  refine cal_of F (g__law_draw T) (b__law_draw F) sc__law_draw (fun vs H Q E h => ?_) (fun cdv A outer s H vs Q E hr h => ?_)
  · obtain ⟨f, c, n, rfl, _⟩ := h
    rfl
  · obtain ⟨f, c, n, rfl, FL, n0, n1, q⟩ := h
    obtain ⟨ns, i, r, st, hf, hc, i0, r0, st0, st1⟩ := FL.ex
    have hn : n ≠ 0 := by omega
    have hdiv : CDivX r n := ⟨hn, big_log n1 n0⟩
    have ncf := flow_ne hf hc
    refine ⟨_, (pss_cons (ps_if (pt_cmpR op_gt (pe_ix ix_list (pv 0) pe_int (fun _ _ => rfl)) pe_int (nomark _)) (pss_cons (ps_set (i := 2) sc__law_draw.nd rfl (.inl rfl) (pe_op op_modN (pe_ix ix_list (pv 0) pe_int (fun _ _ => rfl)) (pv 1)))
        (pss_cons (ps_asg (pe_op op_fdivX (pe_ix ix_list (pv 0) pe_int (fun _ _ => rfl)) (pv 1)) (pg_sub (pv 0) pe_int set_list))
        (pss_one (ps_ret (pv 2))))) pss_nil)
      (pss_cons (ps_set (i := 3) sc__law_draw.nd rfl (.inl rfl) pe_int)
      (C8.pss_cut (ps_if (pt_cmpR op_lt (pe_ix ix_list (pv 0) pe_int (fun _ _ => rfl)) (pe_callB call_len_seq (by rfl) (z_len T) bb_len (pa_cons (pe_ix ix_list (pv 0) pe_int (fun _ _ => rfl)) pa_nil)) (nomark _)) (pss_one (ps_set (i := 3) sc__law_draw.nd rfl (.inl rfl) (pe_ix ix_list (pe_ix ix_list (pv 0) pe_int (fun _ _ => rfl)) (pe_ix ix_list (pv 0) pe_int (fun _ _ => rfl)) (fun _ _ => rfl)))) pss_nil)
      (pss_cons (ps_asg (pe_op op_add (pe_ix ix_list (pv 0) pe_int (fun _ _ => rfl)) pe_int) (pg_sub (pv 0) pe_int set_list))
      (pss_cons (ps_if (pt_cmpR op_ge (pe_callB call_abs (by rfl) (z_abs T) bb_abs (pa_cons (pv 3) pa_nil)) (pe_op op_pow pe_int pe_int) (nomark _)) (pss_cons (ps_asg (pe_op op_fdivX (pe_callB call_abs (by rfl) (z_abs T) bb_abs (pa_cons (pv 3) pa_nil)) (pv 1)) (pg_sub (pv 0) pe_int set_list))
        (pss_one (ps_ret (pe_op op_modN (pe_callB call_abs (by rfl) (z_abs T) bb_abs (pa_cons (pv 3) pa_nil)) (pv 1))))) pss_nil)
      (pss_cons (ps_set (i := 4) sc__law_draw.nd rfl (.inl rfl) (pe_op op_add (pe_op op_add (pe_op op_pow (pe_ix ix_list (pv 0) pe_int (fun _ _ => rfl)) pe_int) (pe_op op_mul (pe_ix ix_list (pv 0) pe_int (fun _ _ => rfl)) pe_int)) (pe_op op_mul (pe_ix ix_list (pv 0) pe_int (fun _ _ => rfl)) pe_int)))
      (pss_cons (ps_set (i := 4) sc__law_draw.nd rfl (.inl rfl) (pe_op op_modN (pe_op op_add (pv 4) (pe_op op_mul (pe_op op_modN (pv 3) pe_int) pe_int)) pe_int))
      (pss_cons (ps_asg (pv 4) (pg_sub (pv 0) pe_int set_list))
      (pss_one (ps_ret (pe_op op_modN (pe_op op_add (pe_op op_fdivN (pv 4) pe_int) (pe_op op_mul (pe_op op_modN (pv 4) pe_int) pe_int)) (pv 1)))))))))))), ?_⟩
    refine ⟨_, rfl, f, _, 2, _, rfl, rfl, .inl (.inl hf), atI_nat (j := 2) rfl, _, _, rfl, rfl, _, rfl, ite2 (fun e => ?_) (fun e => ?_)⟩
    · -- numbers are left of a great one
      refine ⟨_, rfl, f, _, 2, _, rfl, rfl, .inl (.inl hf), atI_nat (j := 2) rfl, _, rfl, _, _, rfl, rfl, hn, ?_⟩
      refine ⟨_, rfl, f, _, 2, _, rfl, rfl, .inl (.inl hf), atI_nat (j := 2) rfl, _, rfl, _, _, rfl, rfl, hdiv, _, rfl, f, _, 2, 2, rfl, rfl, hf, rfl, ?_⟩
      exact ⟨_, rfl, q _ _ (fm_lo _ n0) (fm_hi _ n0) Sb.upd (Flow.put hf hc i0 (fd_lo r0 n0) st0 st1)⟩
    · -- the next cell
      refine ⟨fun σ' H' => H' = H ∧ ∃ x : Int, σ' = [some (.ref f), some (.int n), none, some (.int x), none], ?_, ?_⟩
      · refine ⟨_, rfl, f, _, 1, _, rfl, rfl, .inl (.inl hf), atI_nat (j := 1) rfl, _, rfl, f, _, 0, _, rfl, rfl, .inl (.inl hf), atI_nat (j := 0) rfl, c, _, rfl, .inl (.inl (.inl hc)), _, _, rfl, rfl, _, rfl, ite2 (fun e => ?_) (fun e => ?_)⟩
        · have hi : i < ((ns.map V.int).length : Int) := of_decide_eq_true e
          rw [List.length_map] at hi
          have hj : i.toNat < ns.length := by omega
          refine ⟨_, rfl, f, _, 0, _, rfl, rfl, .inl (.inl hf), atI_nat (j := 0) rfl, _, rfl, f, _, 1, _, rfl, rfl, .inl (.inl hf), atI_nat (j := 1) rfl, c, _, i, .int ns[i.toNat], rfl, rfl, .inl (.inl hc), ?_, rfl, ns[i.toNat], rfl⟩
          refine at_of (j := i.toNat) (by omega) ?_
          rw [List.getElem?_map, List.getElem?_eq_getElem hj]
          rfl
        · exact ⟨rfl, 0, rfl⟩
      · rintro σ' H' ⟨rfl, x, rfl⟩
        -- flow[1] = flow[1] + 1
        refine ⟨_, rfl, f, _, 1, _, rfl, rfl, .inl (.inl hf), atI_nat (j := 1) rfl, _, _, rfl, rfl, _, rfl, f, _, 1, 1, rfl, rfl, hf, rfl, ?_⟩
        have hf1 : (upd H' f (.lst [.ref c, .int (i + 1), .int r, .int st])) f = some (.lst [.ref c, .int (i + 1), .int r, .int st]) := upd_same
        have hc1 : (upd H' f (.lst [.ref c, .int (i + 1), .int r, .int st])) c = some (.lst (ns.map V.int)) := by
          rw [upd_ne ncf]
          exact hc
        have sb1 : Sb f H' (upd H' f (.lst [.ref c, .int (i + 1), .int r, .int st])) := Sb.upd
        have a0 := abs_lo x
        refine ⟨_, rfl, _, rfl, 10, 18, rfl, rfl, ⟨by decide, by decide, by decide⟩, _, _, rfl, rfl, _, rfl, ite2 (fun e => ?_) (fun e => ?_)⟩
        · refine ⟨_, rfl, _, rfl, _, rfl, _, _, rfl, rfl, ⟨hn, big_log n1 n0⟩, _, rfl, f, _, 2, 2, rfl, rfl, hf1, rfl, ?_⟩
          exact ⟨_, rfl, _, rfl, _, rfl, _, _, rfl, rfl, hn, q _ _ (fm_lo _ n0) (fm_hi _ n0) (sb1.trans Sb.upd) (Flow.put hf1 hc1 (by omega) (fd_lo a0 n0) st0 st1)⟩
        · refine ⟨_, rfl, f, _, 3, _, rfl, rfl, .inl (.inl hf1), atI_nat (j := 3) rfl, st, 3, rfl, rfl, ⟨by decide, by decide, by omega⟩, ?_⟩
          refine ⟨_, rfl, f, _, 3, _, rfl, rfl, .inl (.inl hf1), atI_nat (j := 3) rfl, st, 31, rfl, rfl, .inr ⟨by decide, by decide⟩, _, _, rfl, rfl, ?_⟩
          refine ⟨_, rfl, f, _, 1, _, rfl, rfl, .inl (.inl hf1), atI_nat (j := 1) rfl, i + 1, 69621, rfl, rfl, .inr ⟨by decide, by decide⟩, _, _, rfl, rfl, ?_⟩
          refine ⟨_, rfl, _, rfl, x, 2147483629, rfl, rfl, (show (2147483629 : Int) ≠ 0 by decide), _, 48271, rfl, rfl, .inr ⟨by decide, by decide⟩, _, _, rfl, rfl, _, 2147483647, rfl, rfl, (show (2147483647 : Int) ≠ 0 by decide), ?_⟩
          have b0 := fm_lo (st ^ (3 : Int).toNat + st * 31 + (i + 1) * 69621 + x.fmod 2147483629 * 48271) (n := 2147483647) (by decide)
          have b1 := fm_hi (st ^ (3 : Int).toNat + st * 31 + (i + 1) * 69621 + x.fmod 2147483629 * 48271) (n := 2147483647) (by decide)
          refine ⟨_, rfl, _, rfl, f, _, 3, 3, rfl, rfl, hf1, rfl, ?_⟩
          refine ⟨_, rfl, _, 8192, rfl, rfl, ⟨by decide, by decide⟩, _, rfl, _, 8191, rfl, rfl, (show (8191 : Int) ≠ 0 by decide), _, 40503, rfl, rfl, .inr ⟨by decide, by decide⟩, _, _, rfl, rfl, _, rfl, _, n, rfl, rfl, hn, ?_⟩
          exact q _ _ (fm_lo _ n0) (fm_hi _ n0) (sb1.trans Sb.upd) (Flow.put hf1 hc1 (by omega) r0 b0 b1)
/-! ### _law_pick -/
def sp_pick : Sp := fun vs H Q _ => ∃ (f c l : Addr) (xs : List V), vs = [.ref f, .ref l] ∧ Flow H f c ∧ H l = some (.lst xs) ∧ l ≠ f ∧ 0 < xs.length ∧ xs.length ≤ 1000 ∧ ∀ (v : V) (H' : Hp), v ∈ xs → Sb f H H' → Flow H' f c → Q v H'
theorem cal__law_pick (T : Tp K mg) : Cal P w K mg base 3 "_law_pick" sp_pick := by
  obtain ⟨fd, F⟩ := f__law_pick T
  refine cal_of F (g__law_pick T) (b__law_pick F) sc__law_pick (fun vs H Q E h => ?_) (fun cdv A outer s H vs Q E hr h => ?_)
  · obtain ⟨f, c, l, xs, rfl, _⟩ := h
    rfl
  · obtain ⟨f, c, l, xs, rfl, FL, hl, nlf, h0, h1, q⟩ := h
    refine ⟨_, (pss_one (ps_ret (pe_ix ix_list (pv 1) (C8.pe_c (cal__law_draw T) hr (by decide) rfl (pa_cons (pv 0) (pa_cons (pe_callB call_len_seq (by rfl) (z_len T) bb_len (pa_cons (pv 1) pa_nil)) pa_nil))) (fun _ _ => rfl)))), ?_⟩
    refine ⟨_, rfl, _, rfl, _, rfl, l, _, rfl, .inl (.inl (.inl hl)), f, c, _, rfl, FL, by omega, by omega, fun v H1 v0 v1 sb F1 => ?_⟩
    have hv : v.toNat < xs.length := by omega
    exact ⟨l, xs, v, xs[v.toNat], rfl, rfl, .inl (.inl (sb _ _ hl nlf)), at_of (j := v.toNat) (by omega) (List.getElem?_eq_getElem hv), q _ H1 (List.getElem_mem hv) sb F1⟩
end
end Tw

set_option maxHeartbeats 4000000
namespace Tw
open PySem PySem.Spec PyProof.Rows L2
/-! ### the law's own picture of a web: a dict -/
abbrev kBy : Key := .inr "by"
abbrev kOwn : Key := .inr "own"
abbrev kWd : Key := .inr "winds"
abbrev kBd : Key := .inr "bonds"
theorem k1 : ¬ kBy = kOwn := by decide +kernel
theorem k2 : ¬ kBy = kWd := by decide +kernel
theorem k3 : ¬ kBy = kBd := by decide +kernel
theorem k4 : ¬ kOwn = kWd := by decide +kernel
theorem k5 : ¬ kOwn = kBd := by decide +kernel
theorem k6 : ¬ kWd = kBd := by decide +kernel
def mk (l : Int) (o w b : Addr) : List (Key × V) := [(kBy, .int l), (kOwn, .ref o), (kWd, .ref w), (kBd, .ref b)]
section
variable {l : Int} {o w b o2 : Addr} {H : Hp} {d : Addr}
theorem mk_by (h : H d = some (.dK (mk l o w b))) : DGet H d (.str "by") (some (.int l)) := .inl ⟨_, kBy, .inl h, rfl, by
  unfold mk
  rw [valV_pos rfl]⟩
theorem mk_own (h : H d = some (.dK (mk l o w b))) : DGet H d (.str "own") (some (.ref o)) := .inl ⟨_, kOwn, .inl h, rfl, by
  unfold mk
  rw [valV_neg k1, valV_pos rfl]⟩
theorem mk_wd (h : H d = some (.dK (mk l o w b))) : DGet H d (.str "winds") (some (.ref w)) := .inl ⟨_, kWd, .inl h, rfl, by
  unfold mk
  rw [valV_neg k2, valV_neg k4, valV_pos rfl]⟩
theorem mk_bd (h : H d = some (.dK (mk l o w b))) : DGet H d (.str "bonds") (some (.ref b)) := .inl ⟨_, kBd, .inl h, rfl, by
  unfold mk
  rw [valV_neg k3, valV_neg k5, valV_neg k6, valV_pos rfl]⟩
theorem mk_putOwn : putK (mk l o w b) kOwn (.ref o2) = mk l o2 w b := by
  have n4 : ¬ kWd = kOwn := fun e => k4 e.symm
  have n5 : ¬ kBd = kOwn := fun e => k5 e.symm
  unfold putK mk
  rw [if_pos (by rw [List.any_cons, List.any_cons, decide_eq_true (rfl : kOwn = kOwn)]; simp)]
  simp only [List.map_cons, List.map_nil, if_neg k1, if_neg n4, if_neg n5, if_true]
end
theorem mk_merge (l : Int) (o w b : Addr) : mergeK [] [(kBy, .int l), (kOwn, .ref o), (kWd, .ref w), (kBd, .ref b)] = mk l o w b := by
  show putK (putK (putK (putK [] kBy (.int l)) kOwn (.ref o)) kWd (.ref w)) kBd (.ref b) = mk l o w b
  rw [putK_new (kvs := []) _ valV_nil, List.nil_append]
  rw [putK_new (kvs := [(kBy, V.int l)]) _ (by rw [valV_neg k1]; rfl), List.singleton_append]
  rw [putK_new (kvs := [(kBy, V.int l), (kOwn, V.ref o)]) _ (by rw [valV_neg k2, valV_neg k4]; rfl), List.cons_append, List.singleton_append]
  rw [putK_new (kvs := [(kBy, V.int l), (kOwn, V.ref o), (kWd, V.ref w)]) _ (by rw [valV_neg k3, valV_neg k5, valV_neg k6]; rfl)]
  rfl
/-- the picture m stands at d -/
structure MdAt (H : Hp) (d : Addr) (m : Md) : Prop where
  ex : ∃ (o w b : Addr) (ws bs : List V), H d = some (.dK (mk m.last o w b)) ∧ H o = some (.lst (m.own.map V.str)) ∧ H w = some (.lst ws) ∧ Rows H ws (m.wd.map Wd.row) ∧ H b = some (.lst bs) ∧ Rows H bs (m.bd.map Bd.row) ∧ o ≠ w ∧ o ≠ b ∧ w ≠ b
/-- .. with its three lists at o, w, b -/
structure MdX (H : Hp) (d o w b : Addr) (m : Md) : Prop where
  dk : H d = some (.dK (mk m.last o w b))
  own : H o = some (.lst (m.own.map V.str))
  wd : ∃ ws, H w = some (.lst ws) ∧ Rows H ws (m.wd.map Wd.row)
  bd : ∃ bs, H b = some (.lst bs) ∧ Rows H bs (m.bd.map Bd.row)
  now : o ≠ w
  nob : o ≠ b
  nwb : w ≠ b
theorem MdX.at {H : Hp} {d o w b : Addr} {m : Md} (M : MdX H d o w b m) : MdAt H d m := by
  obtain ⟨ws, h1, h2⟩ := M.wd
  obtain ⟨bs, h3, h4⟩ := M.bd
  exact ⟨o, w, b, ws, bs, M.dk, M.own, h1, h2, h3, h4, M.now, M.nob, M.nwb⟩
theorem strs_flow {H : Hp} {f c a : Addr} {l : List Str} (F : Flow H f c) (h : H a = some (.lst (l.map V.str))) : a ≠ f := by
  obtain ⟨ns, i, r, st, h1, _⟩ := F.ex
  refine ne_of h h1 fun e => ?_
  have e := HO.lst.inj e
  cases l with
  | nil => cases e
  | cons x t =>
    have e1 := (List.cons.inj e).1
    cases e1
theorem rows_flow {H : Hp} {f c a : Addr} {xs : List V} {rs : List (List V)} (F : Flow H f c) (h : H a = some (.lst xs)) (R : Rows H xs rs) : a ≠ f := by
  obtain ⟨ns, i, r, st, h1, _⟩ := F.ex
  refine ne_of h h1 fun e => ?_
  have e := HO.lst.inj e
  subst e
  obtain ⟨t, r', e1, _⟩ := R.at (i := 1) (x := .int i) rfl
  cases e1
theorem MdAt.same {H H' : Hp} {d : Addr} {m : Md} (M : MdAt H d m) (s : Same H H') : MdAt H' d m := by
  obtain ⟨o, w, b, ws, bs, h1, h2, h3, h4, h5, h6, h7⟩ := M.ex
  exact ⟨o, w, b, ws, bs, s _ _ h1, s _ _ h2, s _ _ h3, h4.keep (Kt.of s), s _ _ h5, h6.keep (Kt.of s), h7⟩
theorem MdAt.sb {H H' : Hp} {f c d : Addr} {m : Md} (M : MdAt H d m) (F : Flow H f c) (s : Sb f H H') : MdAt H' d m := by
  obtain ⟨o, w, b, ws, bs, h1, h2, h3, h4, h5, h6, h7⟩ := M.ex
  obtain ⟨xs, hf⟩ := F.lst
  have k := s.kt hf
  exact ⟨o, w, b, ws, bs, s _ _ h1 (ne_of h1 hf (by intro z; cases z)), s _ _ h2 (strs_flow F h2), s _ _ h3 (rows_flow F h3 h4), h4.keep k, s _ _ h5 (rows_flow F h5 h6), h6.keep k, h7⟩
theorem MdX.same {H H' : Hp} {d o w b : Addr} {m : Md} (M : MdX H d o w b m) (s : Same H H') : MdX H' d o w b m := by
  obtain ⟨ws, h1, h2⟩ := M.wd
  obtain ⟨bs, h3, h4⟩ := M.bd
  exact ⟨s _ _ M.dk, s _ _ M.own, ⟨ws, s _ _ h1, h2.keep (Kt.of s)⟩, ⟨bs, s _ _ h3, h4.keep (Kt.of s)⟩, M.now, M.nob, M.nwb⟩
theorem MdX.sb {H H' : Hp} {f c d o w b : Addr} {m : Md} (M : MdX H d o w b m) (F : Flow H f c) (s : Sb f H H') : MdX H' d o w b m := by
  obtain ⟨ws, h1, h2⟩ := M.wd
  obtain ⟨bs, h3, h4⟩ := M.bd
  obtain ⟨xs, hf⟩ := F.lst
  have k := s.kt hf
  exact ⟨s _ _ M.dk (ne_of M.dk hf (by intro z; cases z)), s _ _ M.own (strs_flow F M.own), ⟨ws, s _ _ h1 (rows_flow F h1 h2), h2.keep k⟩, ⟨bs, s _ _ h3 (rows_flow F h3 h4), h4.keep k⟩, M.now, M.nob, M.nwb⟩
/-- a span more -/
theorem MdX.addW {H : Hp} {d o w b t : Addr} {m : Md} {x : Wd} {ws : List V} (M : MdX H d o w b m) (e : H w = some (.lst ws)) (R : Rows H ws (m.wd.map Wd.row)) (ht : H t = some (.tup x.row)) : MdX (upd H w (.lst (ws ++ [.ref t]))) d o w b (m.addS x) := by
  obtain ⟨bs, h3, h4⟩ := M.bd
  have k : Kt H (upd H w (.lst (ws ++ [.ref t]))) := Kt.upd fun xs z => by
    rw [e] at z
    cases z
  refine ⟨?_, ?_, ⟨_, upd_same, ?_⟩, ⟨bs, ?_, h4.keep k⟩, M.now, M.nob, M.nwb⟩
  · rw [upd_ne (ne_of M.dk e (by intro z; cases z))]
    exact M.dk
  · rw [upd_ne M.now]
    exact M.own
  · show Rows _ _ ((m.wd ++ [x]).map Wd.row)
    rw [List.map_append]
    exact (R.keep k).snoc (k _ _ ht)
  · rw [upd_ne M.nwb.symm]
    exact h3
/-- a tie more -/
theorem MdX.addB {H : Hp} {d o w b t : Addr} {m : Md} {x : Bd} {bs : List V} (M : MdX H d o w b m) (e : H b = some (.lst bs)) (R : Rows H bs (m.bd.map Bd.row)) (ht : H t = some (.tup x.row)) : MdX (upd H b (.lst (bs ++ [.ref t]))) d o w b (m.addT x) := by
  obtain ⟨ws, h3, h4⟩ := M.wd
  have k : Kt H (upd H b (.lst (bs ++ [.ref t]))) := Kt.upd fun xs z => by
    rw [e] at z
    cases z
  refine ⟨?_, ?_, ⟨ws, ?_, h4.keep k⟩, ⟨_, upd_same, ?_⟩, M.now, M.nob, M.nwb⟩
  · rw [upd_ne (ne_of M.dk e (by intro z; cases z))]
    exact M.dk
  · rw [upd_ne M.nob]
    exact M.own
  · rw [upd_ne M.nwb]
    exact h3
  · show Rows _ _ ((m.bd ++ [x]).map Bd.row)
    rw [List.map_append]
    exact (R.keep k).snoc (k _ _ ht)
/-- the names that are drawn -/
def pool : List Str := ["a", "bb", "c", "zzzzzzzz", "ab", "x", "late", "by", "q", "tie", "ends", "waits", "k", "ba"]
theorem pool_nd : pool.Nodup := by decide +kernel
theorem pool_ok : (pool.all fun z => decide (1 ≤ z.length) && decide (z.length ≤ 8) && (z.cps.toList.all fun c => decide (c ∈ letters.cps.toList)) && !decide (z = "start")) = true := by decide +kernel
theorem pool_nm {z : Str} (h : z ∈ pool) : Nm z ∧ ¬ z = "start" := by
  have e := List.all_eq_true.mp pool_ok z h
  simp only [Bool.and_eq_true, decide_eq_true_eq, List.all_eq_true, Bool.not_eq_true', decide_eq_false_iff_not] at e
  exact ⟨⟨e.1.1.1, e.1.1.2, e.1.2⟩, e.2⟩
theorem pull_perm {α : Type} : ∀ (r : List α) (v : Nat) (h : v < r.length), (r[v] :: r.eraseIdx v).Perm r
  | [], v, h => absurd h (Nat.not_lt_zero _)
  | a :: r, 0, h => List.Perm.refl _
  | a :: r, v + 1, h => by
    have ih := pull_perm r v (Nat.lt_of_succ_lt_succ h)
    exact (List.Perm.swap a (r[v]'(Nat.lt_of_succ_lt_succ h)) (r.eraseIdx v)).trans (ih.cons a)
theorem erase_map {α β : Type} (g : α → β) : ∀ (r : List α) (v : Nat), (r.map g).eraseIdx v = (r.eraseIdx v).map g
  | [], _ => rfl
  | a :: r, 0 => rfl
  | a :: r, v + 1 => congrArg (g a :: ·) (erase_map g r v)
theorem nd_pull {l r : List Str} {v : Nat} (h : v < r.length) (nd : (l ++ r).Nodup) : ((l ++ [r[v]]) ++ r.eraseIdx v).Nodup := by
  have p : (r[v] :: r.eraseIdx v).Perm r := pull_perm r v h
  rw [List.append_assoc, List.singleton_append]
  exact (p.append_left l).nodup_iff.mpr nd
theorem mem_pull {r : List Str} {v : Nat} {z : Str} (h : v < r.length) : z ∈ r[v] :: r.eraseIdx v ↔ z ∈ r := (pull_perm r v h).mem_iff
section
variable {P : Program} {w : World} {K : PySem.W.Frag} {mg : Str → Option Value} {base : Heap}
/-! ### _law_names -/
def sp_names : Sp := fun vs H Q _ => ∃ (f c : Addr) (n : Int), vs = [.ref f, .int n] ∧ Flow H f c ∧ 0 ≤ n ∧ n ≤ 14 ∧ ∀ (q : Addr) (ns : List Str) (H' : Hp), Sb f H H' → Flow H' f c → H q = none → H' q = some (.lst (ns.map V.str)) → ns.length = n.toNat → ns.Nodup → (∀ z ∈ ns, z ∈ pool) → Q (.ref q) H'
theorem cal__law_names (T : Tp K mg) : Cal P w K mg base 3 "_law_names" sp_names := by
  obtain ⟨fd, F⟩ := f__law_names T
  refine cal_of F (g__law_names T) (b__law_names F) sc__law_names (fun vs H Q E h => ?_) (fun cdv A outer s H vs Q E hr h => ?_)
  · obtain ⟨f, c, n, rfl, _⟩ := h
    rfl
  · obtain ⟨f, c, n, rfl, FL, n0, n1, q⟩ := h
    refine ⟨_, (pss_cons (ps_set (i := 2) sc__law_names.nd rfl (.inl rfl) (pe_lst (pa_cons pe_str (pa_cons pe_str (pa_cons pe_str (pa_cons pe_str (pa_cons pe_str (pa_cons pe_str (pa_cons pe_str (pa_cons pe_str (pa_cons pe_str (pa_cons pe_str (pa_cons pe_str (pa_cons pe_str (pa_cons pe_str (pa_cons pe_str pa_nil))))))))))))))))
      (pss_cons (ps_set (i := 3) sc__law_names.nd rfl (.inl rfl) (pe_lst pa_nil))
      (pss_cons (ps_for PassesOwn.never rfl (pi_range1 rfl (z_range T) (pa_cons (pv 1) pa_nil)) (pg_name (i := 4) sc__law_names.nd rfl (.inl rfl))
        (pss_one (ps_expr (pe_bm PySem.F.plainAttrs_list PySem.F.slot_list_append PySem.F.type_list_append mt_append (pv 3) (pa_cons (pe_bm PySem.F.plainAttrs_list PySem.F.slot_list_pop PySem.F.type_list_pop mt_popAt (pv 2) (pa_cons (C8.pe_c (cal__law_draw T) hr (by decide) rfl (pa_cons (pv 0) (pa_cons (pe_callB call_len_seq (by rfl) (z_len T) bb_len (pa_cons (pv 2) pa_nil)) pa_nil))) pa_nil)) pa_nil)))))
      (pss_one (ps_ret (pv 3)))))), ?_⟩
    refine ⟨by show 14 ≤ sizeLine; decide, fun l nl => ?_⟩
    have s1 := same_upd (o := .lst (pool.map V.str)) nl
    refine ⟨Nat.zero_le _, fun k nk => ?_⟩
    have s2 := same_upd (o := .lst []) nk
    have sa := s1.trans s2
    have nkH : H k = none := s1.free nk
    have nlk : l ≠ k := fun z => by
      rw [← z, upd_same] at nk
      cases nk
    obtain ⟨xs, hf⟩ := FL.lst
    have nlf : l ≠ f := (ne_of_none hf nl).symm
    have nkf : k ≠ f := (ne_of_none hf nkH).symm
    obtain ⟨ys, hc⟩ := FL.cells
    have ncl : c ≠ l := ne_of_none hc nl
    have nck : c ≠ k := ne_of_none hc nkH
    refine ⟨_, rfl, n, rfl, by omega, by omega, ?_⟩
    refine for_range (lo := 0) (n := n.toNat) (fun i σ H1 => ∃ (y : Option V) (ns rest : List Str), σ = [some (.ref f), some (.int n), some (.ref l), some (.ref k), y] ∧ Sb f H H1 ∧ Flow H1 f c ∧ H1 l = some (.lst (rest.map V.str)) ∧ H1 k = some (.lst (ns.map V.str)) ∧
      ns.length = i ∧ rest.length + i = 14 ∧ (ns ++ rest).Nodup ∧ ∀ z ∈ ns ++ rest, z ∈ pool) ?_ ?_ ?_
    · exact ⟨none, [], pool, rfl, Sb.of sa, FL.same sa, s2 _ _ upd_same, upd_same, rfl, rfl, pool_nd, fun z h => h⟩
    · rintro i σ H1 hi ⟨y, ns, rest, rfl, sb, F1, hl1, hk1, el, er, nd, hp⟩
      have hlen : (rest.map V.str).length = 14 - i := by
        rw [List.length_map]
        omega
      refine ⟨_, rfl, .inl ⟨rfl, _, .inl (.inl hk1)⟩, _, rfl, .inl ⟨rfl, _, .inl (.inl hl1)⟩, _, rfl, _, rfl, l, _, rfl, .inl (.inl (.inl hl1)), f, c, _, rfl, F1, by omega, by omega, fun v H2 v0 v1 sb2 F2 => ?_⟩
      have hv : v.toNat < rest.length := by
        rw [hlen] at v1
        omega
      have hl2 := sb2 _ _ hl1 nlf
      have hk2 := sb2 _ _ hk1 nkf
      refine ⟨l, _, v, v.toNat, .str rest[v.toNat], rfl, rfl, hl2, by omega, by omega, ?_, ?_, k, _, _, rfl, rfl, (by rw [upd_ne nlk.symm]; exact hk2), ?_, ?_⟩
      · unfold seqIndex?
        rw [if_neg (show ¬ v < 0 by omega), if_pos (by simp only [Bool.and_eq_true, decide_eq_true_eq]; omega)]
      · rw [List.getElem?_map, List.getElem?_eq_getElem hv]
        rfl
      · rw [List.length_map]
        exact small1000 (by omega)
      · refine ⟨_, ns ++ [rest[v.toNat]], rest.eraseIdx v.toNat, rfl, ?_, ?_, ?_, ?_, ?_, ?_, nd_pull hv nd, ?_⟩
        · refine fun b o e nb => ?_
          have e1 := sb2 _ _ (sb _ _ e nb) nb
          rw [upd_ne (ne_of_none e nkH), upd_ne (ne_of_none e nl)]
          exact e1
        · exact (F2.upd nlf.symm ncl).upd nkf.symm nck
        · rw [upd_ne nlk, upd_same, erase_map]
        · rw [upd_same, List.map_append]
          rfl
        · rw [List.length_append, el]
          rfl
        · rw [List.length_eraseIdx_of_lt hv]
          omega
        · intro z hz
          refine hp z ?_
          rw [List.append_assoc, List.singleton_append] at hz
          rcases List.mem_append.mp hz with h | h
          · exact List.mem_append.mpr (.inl h)
          · exact List.mem_append.mpr (.inr ((mem_pull hv).mp h))
    · rintro σ H1 ⟨y, ns, rest, rfl, sb, F1, hl1, hk1, el, er, nd, hp⟩
      exact ⟨_, rfl, q k ns H1 sb F1 nkH hk1 el (List.nodup_append.mp nd).1 fun z hz => hp z (List.mem_append.mpr (.inl hz))⟩
end
end Tw

set_option maxHeartbeats 4000000
namespace Tw
open PySem PySem.Spec PyProof.Rows L2
section
variable {P : Program} {w : World} {K : PySem.W.Frag} {mg : Str → Option Value} {base : Heap}
/-! ### _law_model -/
def sp_model : Sp := fun vs H Q _ => ∃ l : Int, vs = [.int l] ∧ ∀ (d o u b : Addr) (H' : Hp), Same H H' → H d = none → H o = none → H u = none → H b = none → MdX H' d o u b ⟨l, [], [], []⟩ → Q (.ref d) H'
theorem cal__law_model (T : Tp K mg) : Cal P w K mg base 2 "_law_model" sp_model := by
  obtain ⟨fd, F⟩ := f__law_model T
  refine cal_of F (g__law_model T) (b__law_model F) sc__law_model (fun vs H Q E h => ?_) (fun cdv A outer s H vs Q E hr h => ?_)
  · obtain ⟨l, rfl, _⟩ := h
    rfl
  · obtain ⟨l, rfl, q⟩ := h
    refine ⟨_, (pss_one (ps_ret (pe_disp (pps_cons pe_str (pv 0) (pps_cons pe_str (pe_lst pa_nil) (pps_cons pe_str (pe_lst pa_nil) (pps_cons pe_str (pe_lst pa_nil) pps_nil)))) (by rfl) (by rfl) (fun z => by cases z) (by decide)))), ?_⟩
    refine fun d nd => ⟨_, rfl, Nat.zero_le _, fun o no => ⟨Nat.zero_le _, fun u nu => ⟨Nat.zero_le _, fun b nb => ?_⟩⟩⟩
    have s0 := same_upd (o := .dK []) nd
    have s1 := same_upd (o := .lst []) no
    have s2 := same_upd (o := .lst []) nu
    have s3 := same_upd (o := .lst []) nb
    have ed := s3 _ _ (s2 _ _ (s1 _ _ (upd_same (H := H) (a := d) (o := .dK []))))
    have eo := s3 _ _ (s2 _ _ (upd_same (H := upd H d (.dK [])) (a := o) (o := .lst [])))
    have eu := s3 _ _ (upd_same (H := upd (upd H d (.dK [])) o (.lst [])) (a := u) (o := .lst []))
    have eb := upd_same (H := upd (upd (upd H d (.dK [])) o (.lst [])) u (.lst [])) (a := b) (o := .lst [])
    have nod : o ≠ d := (ne_of ed eo (by intro z; cases z)).symm
    have nud : u ≠ d := (ne_of ed eu (by intro z; cases z)).symm
    have nbd : b ≠ d := (ne_of ed eb (by intro z; cases z)).symm
    have nou : o ≠ u := ne_of_none (s1 _ _ upd_same |> fun _ => upd_same) nu
    have nob : o ≠ b := ne_of_none (s2 _ _ upd_same) nb
    have nub : u ≠ b := ne_of_none upd_same nb
    refine ⟨ed, [(kBy, .int l), (kOwn, .ref o), (kWd, .ref u), (kBd, .ref b)], rfl, (by show 4 ≤ 15; decide), ?_⟩
    rw [mk_merge]
    refine q d o u b _ (fun x y e => ?_) nd (s0.free no) ((s0.trans s1).free nu) (((s0.trans s1).trans s2).free nb) ⟨upd_same, by rw [upd_ne nod]; exact eo, ⟨[], by rw [upd_ne nud]; exact eu, .nil⟩, ⟨[], by rw [upd_ne nbd]; exact eb, .nil⟩, nou, nob, nub⟩
    rw [upd_ne (ne_of_none e nd)]
    exact s3 _ _ (s2 _ _ (s1 _ _ (s0 _ _ e)))
/-! ### _law_points -/
def sp_lpoints : Sp := fun vs H Q _ => ∃ (d : Addr) (m : Md), vs = [.ref d] ∧ MdAt H d m ∧ m.own.length ≤ 14 ∧ m.wd.length ≤ 14 ∧ ∀ (q : Addr) (H' : Hp), Same H H' → H q = none → H' q = some (.lst (m.pts.map V.str)) → Q (.ref q) H'
theorem cal__law_points (T : Tp K mg) : Cal P w K mg base 2 "_law_points" sp_lpoints := by
  obtain ⟨fd, F⟩ := f__law_points T
  refine cal_of F (g__law_points T) (b__law_points F) sc__law_points (fun vs H Q E h => ?_) (fun cdv A outer s H vs Q E hr h => ?_)
  · obtain ⟨d, m, rfl, _⟩ := h
    rfl
  · obtain ⟨d, m, rfl, M, l1, l2, q⟩ := h
    have hu := hu_of hr
    obtain ⟨o, u, b, ws, bs, h1, h2, h3, h4, h5, h6, h7⟩ := M.ex
    have hw : ws.length = m.wd.length := by rw [h4.len, List.length_map]
    refine ⟨_, (pss_one (ps_ret (pe_op op_cat (pe_op op_cat (pe_lst (pa_cons pe_str pa_nil)) (pe_dget hu (pv 0) pe_str (fun _ _ => rfl))) (pe_lc (own := [("_law_wind_here", 1)]) (g := gName 1) (tt := tYes) rfl sc__law_points.nd (pi_list (pe_dget hu (pv 0) pe_str (fun _ _ => rfl))) (blkOk_by (N := N__law_points) (sc := defScope s__law_points) (by decide +kernel)) (fun _ _ _ _ _ => (pg_name (i := 1) sc__law_points.nd rfl (.inl rfl))) (fun _ _ _ _ _ => pts_nil) (fun _ _ _ _ _ => (pe_ix (ix_tupK (K := K) rfl) (pv 1) pe_int (fun _ _ => rfl))))))), ?_⟩
    refine ⟨by show 1 ≤ sizeLine; decide, fun l nl => ?_⟩
    have s1 := same_upd (o := .lst [.str "start"]) nl
    refine ⟨_, rfl, d, _, rfl, mk_own (s1 _ _ h1), l, o, _, _, rfl, rfl, upd_same, s1 _ _ h2, ?_, fun r nr => ?_⟩
    · rw [List.length_map]
      exact Nat.le_of_lt (small1000 (by show 1 + _ ≤ 1000; omega))
    · have s2 := same_upd (o := .lst ([.str "start"] ++ m.own.map V.str)) nr
      have sa := s1.trans s2
      refine ⟨_, rfl, d, _, rfl, mk_wd (sa _ _ h1), u, rfl, ⟨_, .inl (.inl (sa _ _ h3))⟩, fun D nD => ?_⟩
      have nDH : H D = none := sa.free nD
      refine lc_list (K := K) (a := u) (xs := ws) (fun i H1 => Same (upd (upd H l (.lst [.str "start"])) r (.lst ([.str "start"] ++ m.own.map V.str))) H1 ∧ H1 D = some (.lst (((m.wd.map (·.en)).take i).map V.str)))
        ⟨same_upd nD, upd_same⟩ (fun i H1 _ ⟨s3, _⟩ => .inl (.inl (s3 _ _ (sa _ _ h3)))) ?_ ?_
      · rintro i x H1 hx ⟨s3, d1⟩
        obtain ⟨t, r', rfl, hr', ht⟩ := h4.at hx
        rw [List.getElem?_map] at hr'
        cases e : m.wd[i]? with
        | none =>
          rw [e] at hr'
          cases hr'
        | some y =>
          rw [e] at hr'
          cases hr'
          have hi : i < m.wd.length := (List.getElem?_eq_some_iff.mp e).1
          refine ⟨rfl, yes_i (iteT ⟨_, rfl, t, _, 0, _, rfl, rfl, .inl (.inl (s3 _ _ (sa _ _ ht))), atI_nat (j := 0) rfl, _, d1, ?_, ?_, ?_⟩)⟩
          · rw [List.length_map, List.length_take]
            exact small1000 (by omega)
          · exact same_put s3 nD
          · rw [upd_same, List.take_add_one, List.getElem?_map, e, List.map_append]
            rfl
      · rintro H1 ⟨s3, d1⟩
        have en : (m.wd.map (·.en)).take ws.length = m.wd.map (·.en) := List.take_of_length_le (by rw [List.length_map]; omega)
        rw [en] at d1
        refine ⟨r, D, _, _, rfl, rfl, s3 _ _ upd_same, d1, ?_, fun x nx => ?_⟩
        · rw [List.length_append, List.length_map, List.length_map, List.length_map]
          exact Nat.le_of_lt (small1000 (by show 1 + _ + _ ≤ 1000; omega))
        · have s4 := same_upd (o := .lst ([.str "start"] ++ m.own.map V.str ++ (m.wd.map (·.en)).map V.str)) nx
          have sb := sa.trans s3
          refine q x _ (sb.trans s4) (sb.free nx) ?_
          rw [upd_same]
          unfold Md.pts
          rw [List.map_cons, List.map_append]
          rfl
/-! ### _law_wind -/
structure WdOk (own : List Str) (x : Wd) : Prop where
  bg : x.bg = "start" ∨ x.bg ∈ own
  lo : 1 ≤ x.lo
  hi : x.lo ≤ x.hi
  top : x.hi ≤ 1000
  la : ∀ i, x.la = some i → 0 ≤ i ∧ i ≤ 1000
def sp_wind : Sp := fun vs H Q _ => ∃ (f c o : Addr) (z : Str) (own : List Str) (far : Int), vs = [.ref f, .str z, .ref o, .int far] ∧ Flow H f c ∧ H o = some (.lst (own.map V.str)) ∧ own.length ≤ 14 ∧ 1 ≤ far ∧ far ≤ 500 ∧
  ∀ (t : Addr) (x : Wd) (H' : Hp), Sb f H H' → Flow H' f c → H t = none → H' t = some (.tup x.row) → x.en = z → WdOk own x → (x.lo ≤ far ∧ x.hi < 2 * far ∧ ∀ i, x.la = some i → i ≤ far) → Q (.ref t) H'
theorem cal__law_wind (T : Tp K mg) : Cal P w K mg base 4 "_law_wind" sp_wind := by
  obtain ⟨fd, F⟩ := f__law_wind T
  refine cal_of F (g__law_wind T) (b__law_wind F) sc__law_wind (fun vs H Q E h => ?_) (fun cdv A outer s H vs Q E hr h => ?_)
  · obtain ⟨f, c, o, z, own, far, rfl, _⟩ := h
    rfl
  · obtain ⟨f, c, o, z, own, far, rfl, FL, ho, hl, f0, f1, q⟩ := h
    refine ⟨_, (pss_cons (ps_set (i := 4) sc__law_wind.nd rfl (.inl rfl) (pe_op op_add pe_int (C8.pe_c (cal__law_draw T) hr (by decide) rfl (pa_cons (pv 0) (pa_cons (pv 3) pa_nil)))))
      (pss_cons (ps_set (i := 5) sc__law_wind.nd rfl (.inl rfl) (pe_op op_add (pv 4) (C8.pe_c (cal__law_draw T) hr (by decide) rfl (pa_cons (pv 0) (pa_cons (pv 3) pa_nil)))))
      (pss_cons (ps_set (i := 6) sc__law_wind.nd rfl (.inl rfl) (pe_ix ix_list (pe_lst (pa_cons pe_int (pa_cons pe_int (pa_cons pe_int (pa_cons (pe_op op_add pe_int (C8.pe_c (cal__law_draw T) hr (by decide) rfl (pa_cons (pv 0) (pa_cons (pv 3) pa_nil)))) (pa_cons pe_non pa_nil)))))) (C8.pe_c (cal__law_draw T) hr (by decide) rfl (pa_cons (pv 0) (pa_cons pe_int pa_nil))) (fun _ _ => rfl)))
      (pss_one (ps_ret (pe_tup (pa_cons (pv 1) (pa_cons (C8.pe_c (cal__law_pick T) hr (by decide) rfl (pa_cons (pv 0) (pa_cons (pe_op op_cat (pe_lst (pa_cons pe_str pa_nil)) (pv 2)) pa_nil))) (pa_cons (pv 4) (pa_cons (pv 5) (pa_cons (pv 6) pa_nil))))))))))), ?_⟩
    have nof := strs_flow FL ho
    obtain ⟨zs, hf⟩ := FL.lst
    obtain ⟨ys, hc⟩ := FL.cells
    refine ⟨_, rfl, _, rfl, f, c, far, rfl, FL, by omega, by omega, fun v1 H1 a1 b1 sb1 F1 => ⟨1, v1, rfl, rfl, ?_⟩⟩
    refine ⟨_, rfl, _, rfl, _, rfl, f, c, far, rfl, F1, by omega, by omega, fun v2 H2 a2 b2 sb2 F2 => ⟨_, _, rfl, rfl, ?_⟩⟩
    refine ⟨_, rfl, _, rfl, f, c, far, rfl, F2, by omega, by omega, fun v3 H3 a3 b3 sb3 F3 => ⟨1, v3, rfl, rfl, (by show 5 ≤ sizeLine; decide), fun l nl => ?_⟩⟩
    obtain ⟨zs3, hf3⟩ := F3.lst
    obtain ⟨ys3, hc3⟩ := F3.cells
    have sl := same_upd (o := .lst [.int 0, .int 0, .int 0, .int (1 + v3), .non]) nl
    have nlf : l ≠ f := (ne_of_none hf3 nl).symm
    refine ⟨_, rfl, f, c, 5, rfl, F3.same sl, by decide, by decide, fun v4 H4 a4 b4 sb4 F4 => ?_⟩
    have sb : Sb f H H4 := ((sb1.trans sb2).trans (sb3.trans (Sb.of sl))).trans sb4
    have hl4 := sb4 _ _ (upd_same (H := H3) (a := l) (o := .lst [.int 0, .int 0, .int 0, .int (1 + v3), .non])) nlf
    obtain ⟨la, ela, hla⟩ : ∃ la : Option Int, ([.int 0, .int 0, .int 0, .int (1 + v3), .non] : List V)[v4.toNat]? = some (oV la) ∧ ∀ i, la = some i → 0 ≤ i ∧ i ≤ far := by
      have hv : v4.toNat < 5 := by omega
      match v4.toNat, hv with
      | 0, _ => exact ⟨some 0, rfl, fun i e => by cases e; omega⟩
      | 1, _ => exact ⟨some 0, rfl, fun i e => by cases e; omega⟩
      | 2, _ => exact ⟨some 0, rfl, fun i e => by cases e; omega⟩
      | 3, _ => exact ⟨some (1 + v3), rfl, fun i e => by cases e; omega⟩
      | 4, _ => exact ⟨none, rfl, fun i e => by cases e⟩
    refine ⟨l, _, v4, oV la, rfl, rfl, .inl (.inl hl4), at_of (j := v4.toNat) (by omega) ela, ?_⟩
    -- the tuple
    have ho4 := sb _ _ ho nof
    refine ⟨_, rfl, _, rfl, (by show 1 ≤ sizeLine; decide), fun p np => ?_⟩
    have sp1 := same_upd (o := .lst [.str "start"]) np
    refine ⟨_, rfl, p, o, _, _, rfl, rfl, upd_same, sp1 _ _ ho4, ?_, fun r nr => ?_⟩
    · rw [List.length_map]
      exact Nat.le_of_lt (small1000 (by show 1 + _ ≤ 1000; omega))
    · have sp2 := same_upd (o := .lst ([.str "start"] ++ own.map V.str)) nr
      have F5 := (F4.same sp1).same sp2
      have er : (upd (upd H4 p (.lst [.str "start"])) r (.lst ([.str "start"] ++ own.map V.str))) r = some (.lst ((("start" : Str) :: own).map V.str)) := upd_same
      refine ⟨f, c, r, _, rfl, F5, er, strs_flow F5 er, by rw [List.length_map]; exact Nat.succ_pos _, by rw [List.length_map]; show own.length + 1 ≤ 1000; omega, fun v H6 hv sb6 F6 => ?_⟩
      obtain ⟨g, hg, rfl⟩ := List.mem_map.mp hv
      refine ⟨_, rfl, _, rfl, _, rfl, (by show 5 ≤ sizeLine; decide), fun t nt => ?_⟩
      have sbA : Sb f H H6 := (sb.trans (Sb.of (sp1.trans sp2))).trans sb6
      have st := same_upd (o := .tup (Wd.row ⟨z, g, 1 + v1, 1 + v1 + v2, la⟩)) nt
      have ntH : H t = none := by
        cases e : H t with
        | none => rfl
        | some y =>
          have ntf : t ≠ f := fun z => by
            obtain ⟨zs6, hf6⟩ := F6.lst
            rw [z, hf6] at nt
            cases nt
          rw [sbA _ _ e ntf] at nt
          cases nt
      exact q t ⟨z, g, 1 + v1, 1 + v1 + v2, la⟩ _ (sbA.trans (Sb.of st)) (F6.same st) ntH upd_same rfl ⟨by
        rcases List.mem_cons.mp hg with e | e
        · exact .inl e
        · exact .inr e, by show 1 ≤ 1 + v1; omega, by show 1 + v1 ≤ 1 + v1 + v2; omega, by show 1 + v1 + v2 ≤ 1000; omega, fun i e => by
          have := hla i e
          omega⟩ ⟨by show 1 + v1 ≤ far; omega, by show 1 + v1 + v2 < 2 * far; omega, fun i e => (hla i e).2⟩
/-! ### _law_bond -/
structure BdOk (pts : List Str) (x : Bd) : Prop where
  one : x.one ∈ pts
  oth : x.oth ∈ pts
  ne : ¬ x.one = x.oth
  b : BOk x.bot x.top
def sp_bond : Sp := fun vs H Q _ => ∃ (f c o : Addr) (pts : List Str) (far : Int), vs = [.ref f, .ref o, .int far] ∧ Flow H f c ∧ H o = some (.lst (pts.map V.str)) ∧ 2 ≤ pts.length ∧ pts.length ≤ 100 ∧ pts.Nodup ∧ 1 ≤ far ∧ far ≤ 250 ∧
  ∀ (t : Addr) (x : Bd) (H' : Hp), Sb f H H' → Flow H' f c → H t = none → H' t = some (.tup x.row) → BdOk pts x → Q (.ref t) H'
theorem bok_lo {a : Int} (h1 : -1000 ≤ a) (h2 : a ≤ 1000) : BOk (some a) none := by
  refine ⟨fun z => (nomatch z.1), fun x e => ?_, fun x e => (nomatch e), fun x y _ e => (nomatch e)⟩
  cases e
  exact ⟨h1, h2⟩
theorem bok_hi {a : Int} (h1 : -1000 ≤ a) (h2 : a ≤ 1000) : BOk none (some a) := by
  refine ⟨fun z => (nomatch z.2), fun x e => (nomatch e), fun x e => ?_, fun x y e _ => (nomatch e)⟩
  cases e
  exact ⟨h1, h2⟩
theorem bok_two {a b : Int} (h1 : -1000 ≤ a) (h2 : a ≤ 1000) (h3 : -1000 ≤ b) (h4 : b ≤ 1000) (h5 : a ≤ b) : BOk (some a) (some b) := by
  refine ⟨fun z => (nomatch z.1), fun x e => ?_, fun x e => ?_, fun x y e e2 => ?_⟩
  · cases e
    exact ⟨h1, h2⟩
  · cases e
    exact ⟨h3, h4⟩
  · cases e
    cases e2
    exact h5
theorem sb_free {f c t : Addr} {H H' : Hp} (sb : Sb f H H') (F : Flow H' f c) (nt : H' t = none) : H t = none := by
  cases e : H t with
  | none => rfl
  | some y =>
    have ntf : t ≠ f := fun z => by
      obtain ⟨zs, hf⟩ := F.lst
      rw [z, hf] at nt
      cases nt
    rw [sb _ _ e ntf] at nt
    cases nt
theorem cal__law_bond (T : Tp K mg) : Cal P w K mg base 4 "_law_bond" sp_bond := by
  obtain ⟨fd, F⟩ := f__law_bond T
  refine cal_of F (g__law_bond T) (b__law_bond F) sc__law_bond (fun vs H Q E h => ?_) (fun cdv A outer s H vs Q E hr h => ?_)
  · obtain ⟨f, c, o, pts, far, rfl, _⟩ := h
    rfl
  · obtain ⟨f, c, o, pts, far, rfl, FL, ho, p2, p3, nd, f0, f1, q⟩ := h
    refine ⟨_, (pss_cons (ps_set (i := 3) sc__law_bond.nd rfl (.inl rfl) (pe_callTy call_list_of (by rfl) (z_list T) bb_list (pa_cons (pv 1) pa_nil)))
      (pss_cons (ps_set (i := 4) sc__law_bond.nd rfl (.inl rfl) (pe_bm PySem.F.plainAttrs_list PySem.F.slot_list_pop PySem.F.type_list_pop mt_popAt (pv 3) (pa_cons (C8.pe_c (cal__law_draw T) hr (by decide) rfl (pa_cons (pv 0) (pa_cons (pe_callB call_len_seq (by rfl) (z_len T) bb_len (pa_cons (pv 3) pa_nil)) pa_nil))) pa_nil)))
      (pss_cons (ps_set (i := 5) sc__law_bond.nd rfl (.inl rfl) (C8.pe_c (cal__law_pick T) hr (by decide) rfl (pa_cons (pv 0) (pa_cons (pv 3) pa_nil))))
      (pss_cons (ps_set (i := 6) sc__law_bond.nd rfl (.inl rfl) (pe_op op_sub (C8.pe_c (cal__law_draw T) hr (by decide) rfl (pa_cons (pv 0) (pa_cons (pe_op op_add (pe_op op_mul pe_int (pv 2)) pe_int) pa_nil))) (pv 2)))
      (pss_cons (ps_set (i := 7) sc__law_bond.nd rfl (.inl rfl) (pe_op op_add (pv 6) (C8.pe_c (cal__law_draw T) hr (by decide) rfl (pa_cons (pv 0) (pa_cons (pe_op op_add (pe_op op_mul pe_int (pv 2)) pe_int) pa_nil)))))
      (pss_cons (ps_set (i := 8) sc__law_bond.nd rfl (.inl rfl) (C8.pe_c (cal__law_draw T) hr (by decide) rfl (pa_cons (pv 0) (pa_cons pe_int pa_nil))))
      (pss_cons (ps_if (pt_cmpR op_eq (pv 8) pe_int (nomark _)) (pss_one (ps_ret (pe_tup (pa_cons (pv 4) (pa_cons (pv 5) (pa_cons (pv 6) (pa_cons pe_non pa_nil))))))) pss_nil)
      (pss_cons (ps_if (pt_cmpR op_eq (pv 8) pe_int (nomark _)) (pss_one (ps_ret (pe_tup (pa_cons (pv 4) (pa_cons (pv 5) (pa_cons pe_non (pa_cons (pv 7) pa_nil))))))) pss_nil)
      (pss_one (ps_ret (pe_tup (pa_cons (pv 4) (pa_cons (pv 5) (pa_cons (pv 6) (pa_cons (pv 7) pa_nil))))))))))))))), ?_⟩
    refine ⟨_, rfl, o, _, rfl, .inl (.inl (.inl ho)), fun l nl => ?_⟩
    have s1 := same_upd (o := .lst (pts.map V.str)) nl
    have F1 := FL.same s1
    obtain ⟨zs, hf⟩ := FL.lst
    obtain ⟨ys, hc⟩ := FL.cells
    have nlf : l ≠ f := (ne_of_none hf nl).symm
    have ncl : c ≠ l := ne_of_none hc nl
    refine ⟨_, rfl, .inl ⟨rfl, _, .inl (.inl upd_same)⟩, _, rfl, _, rfl, l, _, rfl, .inl (.inl (.inl upd_same)), f, c, _, rfl, F1, by rw [List.length_map]; omega, by rw [List.length_map]; omega, fun v H2 v0 v1 sb2 F2 => ?_⟩
    rw [List.length_map] at v1
    have hv : v.toNat < pts.length := by omega
    have hl2 := sb2 _ _ (upd_same (H := H) (a := l) (o := .lst (pts.map V.str))) nlf
    refine ⟨l, _, v, v.toNat, .str pts[v.toNat], rfl, rfl, hl2, by omega, by omega, ?_, ?_, ?_⟩
    · unfold seqIndex?
      rw [if_neg (show ¬ v < 0 by omega), if_pos (by simp only [Bool.and_eq_true, decide_eq_true_eq, List.length_map]; omega)]
    · rw [List.getElem?_map, List.getElem?_eq_getElem hv]
      rfl
    · have F3 : Flow (upd H2 l (.lst ((pts.map V.str).eraseIdx v.toNat))) f c := F2.upd nlf.symm ncl
      have hl3 : (upd H2 l (.lst ((pts.map V.str).eraseIdx v.toNat))) l = some (.lst ((pts.eraseIdx v.toNat).map V.str)) := by rw [upd_same, erase_map]
      have hlen : ((pts.eraseIdx v.toNat).map V.str).length = pts.length - 1 := by rw [List.length_map, List.length_eraseIdx_of_lt hv]
      have sb3 : Sb f H (upd H2 l (.lst ((pts.map V.str).eraseIdx v.toNat))) := fun b x e nb => by
        rw [upd_ne (ne_of_none e nl)]
        exact sb2 _ _ (s1 _ _ e) nb
      refine ⟨_, rfl, _, rfl, f, c, l, _, rfl, F3, hl3, nlf, by omega, by omega, fun y H4 hy sb4 F4 => ?_⟩
      obtain ⟨g, hg, rfl⟩ := List.mem_map.mp hy
      have nd2 : (pts[v.toNat] :: pts.eraseIdx v.toNat).Nodup := (pull_perm pts v.toNat hv).nodup_iff.mpr nd
      have hgp : g ∈ pts := (pull_perm pts v.toNat hv).mem_iff.mp (List.mem_cons_of_mem _ hg)
      have hne : ¬ pts[v.toNat] = g := fun e => (List.nodup_cons.mp nd2).1 (e ▸ hg)
      have sbA := sb3.trans sb4
      refine ⟨_, rfl, _, rfl, 3, far, rfl, rfl, .inl ⟨by decide, by decide⟩, _, 1, rfl, rfl, f, c, _, rfl, F4, by omega, by omega, fun v5 H5 a5 b5 sb5 F5 => ⟨_, rfl, _, _, rfl, rfl, ?_⟩⟩
      refine ⟨_, rfl, _, rfl, _, rfl, 2, far, rfl, rfl, .inl ⟨by decide, by decide⟩, _, 1, rfl, rfl, f, c, _, rfl, F5, by omega, by omega, fun v6 H6 a6 b6 sb6 F6 => ⟨_, _, rfl, rfl, ?_⟩⟩
      refine ⟨_, rfl, f, c, 5, rfl, F6, by decide, by decide, fun v7 H7 a7 b7 sb7 F7 => ?_⟩
      have sbB := ((sbA.trans sb5).trans sb6).trans sb7
      have hp : pts[v.toNat] ∈ pts := List.getElem_mem hv
      have done : ∀ (t : Addr) (bo to : Option Int), BOk bo to → H7 t = none → Q (.ref t) (upd H7 t (.tup [.str pts[v.toNat], .str g, oV bo, oV to])) := fun t bo to hb nt =>
        q t ⟨pts[v.toNat], g, bo, to⟩ _ (sbB.trans (Sb.of (same_upd nt))) (F7.same (same_upd nt)) (sb_free sbB F7 nt) upd_same ⟨hp, hgp, hne, hb⟩
      refine ⟨_, rfl, rfl, _, rfl, ite2 (fun e => ?_) (fun e => ?_)⟩
      · refine ⟨_, rfl, _, rfl, _, rfl, (by show 4 ≤ sizeLine; decide), fun t nt => done t (some (v5 - far)) none (bok_lo (by omega) (by omega)) nt⟩
      · refine ⟨_, rfl, rfl, _, rfl, ite2 (fun e => ?_) (fun e => ?_)⟩
        · refine ⟨_, rfl, _, rfl, _, rfl, (by show 4 ≤ sizeLine; decide), fun t nt => done t none (some (v5 - far + v6)) (bok_hi (by omega) (by omega)) nt⟩
        · refine ⟨_, rfl, _, rfl, _, rfl, _, rfl, (by show 4 ≤ sizeLine; decide), fun t nt => done t (some (v5 - far)) (some (v5 - far + v6)) (bok_two (by omega) (by omega) (by omega) (by omega) (by omega)) nt⟩
end
end Tw

set_option maxHeartbeats 4000000
namespace Tw
open PySem PySem.Spec PyProof.Rows L2
theorem cut_pre (ns : List Str) {a : Int} (h : 0 ≤ a) : cutV (ns.map V.str) none (some a) = (ns.take a.toNat).map V.str := by
  obtain ⟨k, rfl⟩ : ∃ k : Nat, a = k := ⟨a.toNat, by omega⟩
  unfold cutV
  rw [HT.sIx_none, HT.sIx_nat, List.drop_zero, Nat.sub_zero, Int.toNat_natCast, List.map_take]
  by_cases hk : k ≤ (ns.map V.str).length
  · rw [Nat.min_eq_left hk]
  · have past := Nat.le_of_lt (Nat.not_le.mp hk)
    rw [Nat.min_eq_right past, List.take_length]
    exact (List.take_of_length_le past).symm
theorem cut_suf (ns : List Str) {a : Int} (h : 0 ≤ a) : cutV (ns.map V.str) (some a) none = (ns.drop a.toNat).map V.str := by
  obtain ⟨k, rfl⟩ : ∃ k : Nat, a = k := ⟨a.toNat, by omega⟩
  unfold cutV
  rw [HT.sIx_none, HT.sIx_nat, Int.toNat_natCast, List.map_drop]
  by_cases hk : k ≤ (ns.map V.str).length
  · rw [Nat.min_eq_left hk]
    exact List.take_of_length_le (by rw [List.length_drop]; exact Nat.le_refl _)
  · have past := Nat.le_of_lt (Nat.not_le.mp hk)
    rw [Nat.min_eq_right past, List.drop_length, List.take_nil]
    exact (List.drop_of_length_le past).symm
/-- what a drawn picture keeps -/
structure MdOk (m : Md) : Prop where
  last : 1 ≤ m.last ∧ m.last ≤ 1000
  nd : (m.own ++ m.wd.map (·.en)).Nodup
  pool : ∀ z ∈ m.own ++ m.wd.map (·.en), z ∈ pool
  wd : ∀ x ∈ m.wd, WdOk m.own x
  bd : ∀ x ∈ m.bd, BdOk m.pts x
  len : m.own.length ≤ 10 ∧ m.wd.length ≤ 4 ∧ m.bd.length ≤ 40
def Near (far : Int) (x : Wd) : Prop := x.lo ≤ far ∧ x.hi < 2 * far ∧ ∀ i, x.la = some i → i ≤ far
theorem pts_nd {own : List Str} {ends : List Str} (nd : (own ++ ends).Nodup) (hp : ∀ z ∈ own ++ ends, z ∈ pool) : (("start" : Str) :: (own ++ ends)).Nodup :=
  List.nodup_cons.mpr ⟨fun h => (pool_nm (hp _ h)).2 rfl, nd⟩
section
variable {P : Program} {w : World} {K : PySem.W.Frag} {mg : Str → Option Value} {base : Heap}
def sp_drawn : Sp := fun vs H Q _ => ∃ (f c : Addr) (a b e far last : Int), vs = [.ref f, .int a, .int b, .int e, .int far, .int last] ∧ Flow H f c ∧ 1 ≤ a ∧ a ≤ 10 ∧ 0 ≤ b ∧ b ≤ 4 ∧ 0 ≤ e ∧ e ≤ 40 ∧ 1 ≤ far ∧ far ≤ 500 ∧ (e = 0 ∨ far ≤ 250) ∧ 1 ≤ last ∧ last ≤ 1000 ∧
  ∀ (d : Addr) (m : Md) (H' : Hp), Sb f H H' → Flow H' f c → H d = none → MdAt H' d m → MdOk m → m.last = last → m.own.length = a.toNat → m.wd.length = b.toNat → m.bd.length = e.toNat → (∀ x ∈ m.wd, Near far x) → Q (.ref d) H'
theorem cal__law_drawn (T : Tp K mg) : Cal P w K mg base 5 "_law_drawn" sp_drawn := by
  obtain ⟨fd, F⟩ := f__law_drawn T
  refine cal_of F (g__law_drawn T) (b__law_drawn F) sc__law_drawn (fun vs H Q E h => ?_) (fun cdv A outer s H vs Q E hr h => ?_)
  · obtain ⟨f, c, a, b, e, far, last, rfl, _⟩ := h
    rfl
  · obtain ⟨f, c, a, b, e, far, last, rfl, FL, a1, a2, b1, b2, e1, e2, far1, far2, far3, last1, last2, q⟩ := h
    have hu := hu_of hr
    obtain ⟨zs, hf⟩ := FL.lst
    obtain ⟨ys, hc⟩ := FL.cells
    refine ⟨_, (pss_cons (ps_set (i := 6) sc__law_drawn.nd rfl (.inl rfl) (C8.pe_c (cal__law_model T) hr (by decide) rfl (pa_cons (pv 5) pa_nil)))
      (pss_cons (ps_set (i := 7) sc__law_drawn.nd rfl (.inl rfl) (C8.pe_c (cal__law_names T) hr (by decide) rfl (pa_cons (pv 0) (pa_cons (pe_op op_add (pv 1) (pv 2)) pa_nil))))
      (pss_cons (ps_dput hu (pv 6) pe_str (pe_slice sl_list (pv 7) po_none (po_some (pv 1))) rfl)
      (pss_cons (ps_for PassesOwn.never rfl (pi_list (pe_slice sl_list (pv 7) (po_some (pv 1)) po_none)) (pg_name (i := 8) sc__law_drawn.nd rfl (.inl rfl))
        (pss_one (ps_expr (pe_bm PySem.F.plainAttrs_list PySem.F.slot_list_append PySem.F.type_list_append mt_append (pe_dget hu (pv 6) pe_str (fun _ _ => rfl)) (pa_cons (C8.pe_c (cal__law_wind T) hr (by decide) rfl (pa_cons (pv 0) (pa_cons (pv 8) (pa_cons (pe_dget hu (pv 6) pe_str (fun _ _ => rfl)) (pa_cons (pv 4) pa_nil))))) pa_nil)))))
      (pss_cons (ps_for PassesOwn.never rfl (pi_range1 rfl (z_range T) (pa_cons (pv 3) pa_nil)) (pg_name (i := 9) sc__law_drawn.nd rfl (.inl rfl))
        (pss_one (ps_expr (pe_bm PySem.F.plainAttrs_list PySem.F.slot_list_append PySem.F.type_list_append mt_append (pe_dget hu (pv 6) pe_str (fun _ _ => rfl)) (pa_cons (C8.pe_c (cal__law_bond T) hr (by decide) rfl (pa_cons (pv 0) (pa_cons (C8.pe_c (cal__law_points T) hr (by decide) rfl (pa_cons (pv 6) pa_nil)) (pa_cons (pv 4) pa_nil)))) pa_nil)))))
      (pss_one (ps_ret (pv 6)))))))), ?_⟩
    refine ⟨_, rfl, last, rfl, fun d o0 u b' H1 s1 nd no0 nu nb' M1 => ?_⟩
    have F1 := FL.same s1
    refine ⟨_, rfl, _, rfl, _, rfl, _, _, rfl, rfl, f, c, a + b, rfl, F1, by omega, by omega, fun g ns H2 sb2 F2 ng hg len nns hp => ?_⟩
    have sbH2 : Sb f H H2 := (Sb.of s1).trans sb2
    have M2 := M1.sb F1 sb2
    -- m['own'] = names[:own]
    refine ⟨_, rfl, _, rfl, a, rfl, g, _, rfl, .inl (.inl hg), fun o no => ?_⟩
    rw [cut_pre ns (by omega)]
    have s3 := same_upd (o := .lst ((ns.take a.toNat).map V.str)) no
    have M3 := M2.same s3
    have F3 := F2.same s3
    have noH : H o = none := sb_free sbH2 F2 no
    refine ⟨_, rfl, d, _, rfl, DPut.k (k := kOwn) M3.dk (by show 4 < sizeLine; decide), ?_⟩
    rw [mk_putOwn]
    have hdo : ∀ x y, (upd H2 o (.lst ((ns.take a.toNat).map V.str))) x = some y → x ≠ d → (upd (upd H2 o (.lst ((ns.take a.toNat).map V.str))) d (.dK (mk last o u b'))) x = some y := fun x y ex nx => by
      rw [upd_ne nx]
      exact ex
    obtain ⟨ws3, hw3, _⟩ := M2.wd
    obtain ⟨bs3, hb3, _⟩ := M2.bd
    have nod : o ≠ d := (ne_of_none M2.dk no).symm
    have nou : o ≠ u := (ne_of_none hw3 no).symm
    have nob : o ≠ b' := (ne_of_none hb3 no).symm
    have nfd : f ≠ d := ne_of_none hf nd
    have ncd : c ≠ d := ne_of_none hc nd
    have nfu : f ≠ u := ne_of_none hf nu
    have ncu : c ≠ u := ne_of_none hc nu
    have nfb : f ≠ b' := ne_of_none hf nb'
    have ncb : c ≠ b' := ne_of_none hc nb'
    have M4 : MdX (upd (upd H2 o (.lst ((ns.take a.toNat).map V.str))) d (.dK (mk last o u b'))) d o u b' ⟨last, ns.take a.toNat, [], []⟩ := by
      have dd := M3.dk
      refine ⟨upd_same, hdo _ _ upd_same nod, ⟨ws3, hdo _ _ (s3 _ _ hw3) (ne_of (s3 _ _ hw3) dd (by intro z; cases z)), ?_⟩, ⟨bs3, hdo _ _ (s3 _ _ hb3) (ne_of (s3 _ _ hb3) dd (by intro z; cases z)), ?_⟩, nou, nob, M3.nwb⟩
      · obtain ⟨ws, h1, h2⟩ := M2.wd
        rw [hw3] at h1
        cases h1
        have e0 := h2.len
        have e1 : ws3 = [] := List.length_eq_zero_iff.mp e0
        rw [e1]
        exact .nil
      · obtain ⟨ws, h1, h2⟩ := M2.bd
        rw [hb3] at h1
        cases h1
        have e0 := h2.len
        have e1 : bs3 = [] := List.length_eq_zero_iff.mp e0
        rw [e1]
        exact .nil
    have F4 : Flow (upd (upd H2 o (.lst ((ns.take a.toNat).map V.str))) d (.dK (mk last o u b'))) f c := F3.upd nfd ncd
    have sbH4 : Sb f H (upd (upd H2 o (.lst ((ns.take a.toNat).map V.str))) d (.dK (mk last o u b'))) := fun x y ex nx => hdo _ _ (s3 _ _ (sbH2 _ _ ex nx)) (ne_of_none ex nd)
    have hg4 : (upd (upd H2 o (.lst ((ns.take a.toNat).map V.str))) d (.dK (mk last o u b'))) g = some (.lst (ns.map V.str)) := hdo _ _ (s3 _ _ hg) (ne_of (s3 _ _ hg) M3.dk (by intro z; cases z))
    -- for end in names[own:]
    refine ⟨_, rfl, _, rfl, a, rfl, g, _, rfl, .inl (.inl hg4), fun r nr => ?_⟩
    rw [cut_suf ns (by omega)]
    have s5 := same_upd (o := .lst ((ns.drop a.toNat).map V.str)) nr
    have M5 := M4.same s5
    have F5 := F4.same s5
    obtain ⟨ws4, hw4, _⟩ := M4.wd
    have nru : r ≠ u := (ne_of_none hw4 nr).symm
    have elen : (ns.take a.toNat).length = a.toNat := by
      rw [List.length_take]
      omega
    have blen : (ns.drop a.toNat).length = b.toNat := by
      rw [List.length_drop]
      omega
    have sbH5 := sbH4.trans (Sb.of s5)
    have spl : ns.take a.toNat ++ ns.drop a.toNat = ns := List.take_append_drop _ _
    refine ⟨r, rfl, ⟨_, .inl (.inl upd_same)⟩, for_list (K := K) (a := r) (xs := (ns.drop a.toNat).map V.str) (fun i σ H6 => ∃ (y : Option V) (ds : List Wd), σ = [some (.ref f), some (.int a), some (.int b), some (.int e), some (.int far), some (.int last), some (.ref d), some (.ref g), y, none] ∧
        Sb f H H6 ∧ Flow H6 f c ∧ MdX H6 d o u b' ⟨last, ns.take a.toNat, ds, []⟩ ∧ H6 r = some (.lst ((ns.drop a.toNat).map V.str)) ∧ ds.map (·.en) = (ns.drop a.toNat).take i ∧ ∀ x ∈ ds, WdOk (ns.take a.toNat) x ∧ Near far x)
      ⟨none, [], rfl, sbH5, F5, M5, upd_same, rfl, fun x hx => nomatch hx⟩ (fun i σ H6 _ ⟨_, _, _, _, _, _, h, _⟩ => .inl (.inl h)) ?_ ?_⟩
    · rintro i x σ H6 hx ⟨y, ds, rfl, sb6, F6, M6, hr6, eds, hds⟩
      rw [List.getElem?_map] at hx
      cases ez : (ns.drop a.toNat)[i]? with
      | none =>
        rw [ez] at hx
        cases hx
      | some z =>
        rw [ez] at hx
        cases hx
        obtain ⟨ws6, hw6, rw6⟩ := M6.wd
        refine ⟨_, rfl, d, _, rfl, mk_wd M6.dk, .inl ⟨rfl, _, .inl (.inl hw6)⟩, _, rfl, _, rfl, _, rfl, d, _, rfl, mk_own M6.dk, _, rfl, f, c, o, z, _, far, rfl, F6, M6.own, by show (ns.take a.toNat).length ≤ 14; omega, far1, far2, fun t x H7 sb7 F7 nt ht ex ok near => ?_⟩
        have M7 := M6.sb F6 sb7
        obtain ⟨ws7, hw7, rw7⟩ := M7.wd
        refine ⟨u, ws7, _, rfl, rfl, hw7, ?_, ?_⟩
        · rw [rw7.len, List.length_map]
          have hl : ds.length = i := by
            have := congrArg List.length eds
            rw [List.length_map, List.length_take] at this
            have hi : i < (ns.drop a.toNat).length := (List.getElem?_eq_some_iff.mp ez).1
            omega
          have hi : i < (ns.drop a.toNat).length := (List.getElem?_eq_some_iff.mp ez).1
          show ds.length < sizeLine
          exact small1000 (by omega)
        · refine ⟨_, ds ++ [x], rfl, ?_, F7.upd nfu ncu, M7.addW hw7 rw7 ht, ?_, ?_, ?_⟩
          · exact fun p v ep np => by
              rw [upd_ne (ne_of_none ep nu)]
              exact sb7 _ _ (sb6 _ _ ep np) np
          · rw [upd_ne nru]
            exact sb7 _ _ hr6 (strs_flow F6 hr6)
          · rw [List.map_append, eds, List.take_add_one, ez]
            show _ ++ [x.en] = _ ++ [z]
            rw [ex]
          · intro v hv
            rcases List.mem_append.mp hv with h | h
            · exact hds v h
            · have e : v = x := List.mem_singleton.mp h
              rw [e]
              exact ⟨ok, near⟩
    · rintro σ H6 ⟨y, ds, rfl, sb6, F6, M6, hr6, eds, hds⟩
      have eds : ds.map (·.en) = ns.drop a.toNat := by
        rw [eds]
        exact List.take_of_length_le (by rw [List.length_map]; exact Nat.le_refl _)
      have dlen : ds.length = b.toNat := by
        have := congrArg List.length eds
        rw [List.length_map] at this
        omega
      have pnd : (("start" : Str) :: (ns.take a.toNat ++ ds.map (·.en))).Nodup := pts_nd (by rw [eds, spl]; exact nns) (by rw [eds, spl]; exact hp)
      -- the ties
      refine ⟨_, rfl, e, rfl, by omega, by omega, ?_⟩
      refine for_range (lo := 0) (n := e.toNat) (fun i σ H7 => ∃ (y9 : Option V) (es : List Bd), σ = [some (.ref f), some (.int a), some (.int b), some (.int e), some (.int far), some (.int last), some (.ref d), some (.ref g), y, y9] ∧
        Sb f H H7 ∧ Flow H7 f c ∧ MdX H7 d o u b' ⟨last, ns.take a.toNat, ds, es⟩ ∧ es.length = i ∧ ∀ x ∈ es, BdOk (("start" : Str) :: (ns.take a.toNat ++ ds.map (·.en))) x) ⟨none, [], rfl, sb6, F6, M6, rfl, fun x hx => nomatch hx⟩ ?_ ?_
      · rintro i σ H7 hi ⟨y9, es, rfl, sb7, F7, M7, el, hes⟩
        obtain ⟨bs7, hb7, rb7⟩ := M7.bd
        refine ⟨_, rfl, d, _, rfl, mk_bd M7.dk, .inl ⟨rfl, _, .inl (.inl hb7)⟩, _, rfl, _, rfl, d, _, rfl, M7.at, by show (ns.take a.toNat).length ≤ 14; omega, by show ds.length ≤ 14; omega, fun pl H8 s8 npl hpl => ?_⟩
        have F8 := F7.same s8
        refine ⟨_, rfl, f, c, pl, _, far, rfl, F8, hpl, ?_, ?_, pnd, far1, by omega, fun t x H9 sb9 F9 nt ht ok => ?_⟩
        · show 2 ≤ (("start" : Str) :: (ns.take a.toNat ++ ds.map (·.en))).length
          rw [List.length_cons, List.length_append, elen]
          omega
        · show (("start" : Str) :: (ns.take a.toNat ++ ds.map (·.en))).length ≤ 100
          rw [List.length_cons, List.length_append, elen, List.length_map]
          omega
        · have M9 := (M7.same s8).sb F8 sb9
          obtain ⟨bs9, hb9, rb9⟩ := M9.bd
          refine ⟨b', bs9, _, rfl, rfl, hb9, ?_, _, es ++ [x], rfl, ?_, F9.upd nfb ncb, M9.addB hb9 rb9 ht, by rw [List.length_append, el]; rfl, ?_⟩
          · rw [rb9.len, List.length_map]
            show es.length < sizeLine
            exact small1000 (by omega)
          · exact fun p v ep np => by
              rw [upd_ne (ne_of_none ep nb')]
              exact sb9 _ _ (s8 _ _ (sb7 _ _ ep np)) np
          · intro v hv
            rcases List.mem_append.mp hv with h | h
            · exact hes v h
            · have e : v = x := List.mem_singleton.mp h
              rw [e]
              exact ok
      · rintro σ H7 ⟨y9, es, rfl, sb7, F7, M7, el, hes⟩
        refine ⟨_, rfl, q d ⟨last, ns.take a.toNat, ds, es⟩ H7 sb7 F7 nd M7.at ⟨⟨last1, last2⟩, ?_, ?_, fun x hx => (hds x hx).1, hes, ?_⟩ rfl elen dlen el fun x hx => (hds x hx).2⟩
        · show (ns.take a.toNat ++ ds.map (·.en)).Nodup
          rw [eds, spl]
          exact nns
        · show ∀ z ∈ ns.take a.toNat ++ ds.map (·.en), z ∈ pool
          rw [eds, spl]
          exact hp
        · show (ns.take a.toNat).length ≤ 10 ∧ ds.length ≤ 4 ∧ es.length ≤ 40
          omega
end
end Tw

set_option maxHeartbeats 4000000
namespace Tw
open PySem PySem.Spec PyProof.Rows L2
theorem nd_take {α : Type} {l : List α} {i : Nat} {z : α} (nd : l.Nodup) (e : l[i]? = some z) : ¬ z ∈ l.take i := by
  have h : (l.take (i + 1)).Nodup := List.Sublist.nodup (List.take_sublist _ _) nd
  rw [List.take_add_one, e] at h
  intro m
  exact (List.nodup_append.mp h).2.2 z m z (List.mem_singleton.mpr rfl) rfl
theorem row_of {xs : List V} {H : Hp} {α : Type} {f : α → List V} {l : List α} {i : Nat} {x : V} (R : Rows H xs (l.map f)) (hx : xs[i]? = some x) : ∃ t y, x = .ref t ∧ l[i]? = some y ∧ H t = some (.tup (f y)) := by
  obtain ⟨t, r, e, hr, ht⟩ := R.at hx
  rw [List.getElem?_map] at hr
  cases ey : l[i]? with
  | none =>
    rw [ey] at hr
    cases hr
  | some y =>
    rw [ey] at hr
    cases hr
    exact ⟨t, y, e, rfl, ht⟩
section
variable {P : Program} {w : World} {K : PySem.W.Frag} {mg : Str → Option Value} {base : Heap}
def sp_web (K : PySem.W.Frag) : Sp := fun vs H Q _ => ∃ (d : Addr) (m : Md), vs = [.ref d] ∧ MdAt H d m ∧ MdOk m ∧ ∀ (p : Addr) (H' : Hp), Same H H' → H p = none → WebAt (CW K) H' p m → Q (.ref p) H'
theorem cal__law_web (T : Tp K mg) : Cal P w K mg base 7 "_law_web" (sp_web K) := by
  obtain ⟨fd, F⟩ := f__law_web T
  refine cal_of F (g__law_web T) (b__law_web F) sc__law_web (fun vs H Q E h => ?_) (fun cdv A outer s H vs Q E hr h => ?_)
  · obtain ⟨d, m, rfl, _⟩ := h
    rfl
  · obtain ⟨d, m, rfl, M, ok, q⟩ := h
    have hu := hu_of hr
    obtain ⟨o, u, b, ws, bs, h1, h2, h3, h4, h5, h6, h7⟩ := M.ex
    have hlen := ok.len
    have ndo : m.own.Nodup := (List.nodup_append.mp ok.nd).1
    have nde : (m.wd.map (·.en)).Nodup := (List.nodup_append.mp ok.nd).2.1
    refine ⟨_, (pss_cons (ps_set (i := 1) sc__law_web.nd rfl (.inl rfl) (C8.pe_mk (mak_Web T) hr (by decide) rfl (pa_cons (pe_dget hu (pv 0) pe_str (fun _ _ => rfl)) pa_nil)))
      (pss_cons (ps_for PassesOwn.never rfl (pi_list (pe_dget hu (pv 0) pe_str (fun _ _ => rfl))) (pg_name (i := 2) sc__law_web.nd rfl (.inl rfl))
        (pss_one (ps_set (i := 1) sc__law_web.nd rfl (.inl rfl) (C8.pe_mt (met_Web_with_moment T) hr (by decide) (pv 1) (pa_cons (pv 2) pa_nil)))))
      (pss_cons (ps_for PassesOwn.never rfl (pi_list (pe_dget hu (pv 0) pe_str (fun _ _ => rfl))) (pg_tup rfl (pgs_cons (pg_name (i := 3) sc__law_web.nd rfl (.inl rfl)) (pgs_cons (pg_name (i := 4) sc__law_web.nd rfl (.inl rfl)) (pgs_cons (pg_name (i := 5) sc__law_web.nd rfl (.inl rfl)) (pgs_cons (pg_name (i := 6) sc__law_web.nd rfl (.inl rfl)) (pgs_cons (pg_name (i := 7) sc__law_web.nd rfl (.inl rfl)) pgs_nil))))))
        (pss_one (ps_set (i := 1) sc__law_web.nd rfl (.inl rfl) (pe_mg0 (met_Web_with_span T) hr (by decide) (pv 1) (pa_cons (pv 3) (pa_cons (pv 4) (pa_cons (pv 5) (pa_cons (pv 6) pa_nil)))) (pk_cons (pv 7) pk_nil)))))
      (pss_cons (ps_for PassesOwn.never rfl (pi_list (pe_dget hu (pv 0) pe_str (fun _ _ => rfl))) (pg_tup rfl (pgs_cons (pg_name (i := 8) sc__law_web.nd rfl (.inl rfl)) (pgs_cons (pg_name (i := 9) sc__law_web.nd rfl (.inl rfl)) (pgs_cons (pg_name (i := 10) sc__law_web.nd rfl (.inl rfl)) (pgs_cons (pg_name (i := 11) sc__law_web.nd rfl (.inl rfl)) pgs_nil)))))
        (pss_one (ps_set (i := 1) sc__law_web.nd rfl (.inl rfl) (pe_mg0 (met_Web_with_tie T) hr (by decide) (pv 1) (pa_cons (pv 8) (pa_cons (pv 9) pa_nil)) (pk_cons (pv 10) (pk_cons (pv 11) pk_nil))))))
      (pss_one (ps_ret (pv 1))))))), ?_⟩
    refine ⟨_, rfl, d, _, rfl, mk_by h1, fun x dx nx ndx ne => ⟨x, dx, m.last, rfl, upd_same, ok.last.1, ok.last.2, fun a0 b0 c0 H1 kp hp ha0 hb0 hc0 => ⟨rfl, ?_⟩⟩⟩
    have s1 : Same H H1 := Same.made nx ndx kp
    have W1 : WebAt (CW K) H1 x ⟨m.last, [], [], []⟩ := ⟨⟨dx, a0, b0, c0, [], [], hp, ha0, hb0, .nil, hc0, .nil⟩, ⟨by show 0 ≤ 10; decide, by show 0 ≤ 4; decide, by show 0 ≤ 40; decide⟩, ok.last⟩
    -- the moments
    refine ⟨_, rfl, d, _, rfl, mk_own (s1 _ _ h1), o, rfl, ⟨_, .inl (.inl (s1 _ _ h2))⟩, for_list (K := K) (a := o) (xs := m.own.map V.str) (fun i σ H2 => ∃ (p : Addr) (y : Option V), σ = [some (.ref d), some (.ref p), y, none, none, none, none, none, none, none, none, none] ∧
      Same H H2 ∧ H p = none ∧ WebAt (CW K) H2 p ⟨m.last, m.own.take i, [], []⟩) ⟨x, none, rfl, s1, nx, W1⟩ (fun i σ H2 _ ⟨_, _, _, s2, _⟩ => .inl (.inl (s2 _ _ h2))) ?_ ?_⟩
    · rintro i v σ H2 hv ⟨p, y, rfl, s2, np, W2⟩
      rw [List.getElem?_map] at hv
      cases ez : m.own[i]? with
      | none =>
        rw [ez] at hv
        cases hv
      | some z =>
        rw [ez] at hv
        cases hv
        have hi : i < m.own.length := (List.getElem?_eq_some_iff.mp ez).1
        have hz := pool_nm (ok.pool z (List.mem_append.mpr (.inl (List.mem_of_getElem? ez))))
        obtain ⟨dx2, _, _, _, _, _, g1, _⟩ := W2.ex
        refine ⟨_, rfl, p, dx2, _, rfl, g1, wf_no (by decide +kernel), _, rfl, p, _, z, rfl, W2, hz.1, ?_, ?_, fun r H3 s3 nr W3 => ?_⟩
        · intro hm
          rcases List.mem_cons.mp hm with e | e
          · exact hz.2 e
          · rcases List.mem_append.mp e with e | e
            · exact nd_take ndo ez e
            · cases e
        · show (m.own.take i).length < 10
          rw [List.length_take]
          omega
        · refine ⟨r, _, rfl, s2.trans s3, s2.free nr, ?_⟩
          rw [List.take_add_one, ez]
          exact W3
    · rintro σ H2 ⟨p, y, rfl, s2, np, W2⟩
      have e0 : m.own.take (m.own.map V.str).length = m.own := List.take_of_length_le (by rw [List.length_map]; exact Nat.le_refl _)
      rw [e0] at W2
      -- the spans
      refine ⟨_, rfl, d, _, rfl, mk_wd (s2 _ _ h1), u, rfl, ⟨_, .inl (.inl (s2 _ _ h3))⟩, for_list (K := K) (a := u) (xs := ws) (fun i σ H3 => ∃ (p : Addr) (y3 y4 y5 y6 y7 : Option V), σ = [some (.ref d), some (.ref p), y, y3, y4, y5, y6, y7, none, none, none, none] ∧
        Same H H3 ∧ H p = none ∧ WebAt (CW K) H3 p ⟨m.last, m.own, m.wd.take i, []⟩) ⟨p, none, none, none, none, none, rfl, s2, np, W2⟩ (fun i σ H3 _ ⟨_, _, _, _, _, _, _, s3, _⟩ => .inl (.inl (s3 _ _ h3))) ?_ ?_⟩
      · rintro i v σ H3 hv ⟨p, y3, y4, y5, y6, y7, rfl, s3, np, W3⟩
        obtain ⟨t, y, rfl, ey, ht⟩ := row_of h4 hv
        have hi : i < m.wd.length := (List.getElem?_eq_some_iff.mp ey).1
        have hy := ok.wd y (List.mem_of_getElem? ey)
        have een : (m.wd.map (·.en))[i]? = some y.en := by
          rw [List.getElem?_map, ey]
          rfl
        have hmem : y.en ∈ m.own ++ m.wd.map (·.en) := List.mem_append.mpr (.inr (List.mem_of_getElem? een))
        have hz := pool_nm (ok.pool y.en hmem)
        obtain ⟨dx3, _, _, _, _, _, g1, _⟩ := W3.ex
        refine ⟨t, y.row, rfl, .inl (.inl (s3 _ _ ht)), rfl, _, _, rfl, _, _, rfl, _, _, rfl, _, _, rfl, _, _, rfl, rfl, ?_⟩
        refine ⟨_, rfl, p, dx3, _, rfl, g1, wf_no (by decide +kernel), _, rfl, _, rfl, _, rfl, _, rfl, _, rfl, rfl, rfl, p, _, y, rfl, W3, ⟨hz.1, ?_, hy.bg, hy.lo, hy.hi, hy.top, hy.la, ?_⟩, fun r H4 s4 nr W4 => ?_⟩
        · intro hm
          rcases List.mem_cons.mp hm with e | e
          · exact hz.2 e
          · rcases List.mem_append.mp e with e | e
            · exact (List.nodup_append.mp ok.nd).2.2 _ e _ (List.mem_of_getElem? een) rfl
            · have e : y.en ∈ (m.wd.map (·.en)).take i := by
                rw [← List.map_take]
                exact e
              exact nd_take nde een e
        · show (m.wd.take i).length < 4
          rw [List.length_take]
          omega
        · refine ⟨r, _, _, _, _, _, rfl, s3.trans s4, s3.free nr, ?_⟩
          rw [List.take_add_one, ey]
          exact W4
      · rintro σ H3 ⟨p, y3, y4, y5, y6, y7, rfl, s3, np, W3⟩
        have ew : ws.length = m.wd.length := by rw [h4.len, List.length_map]
        have e0 : m.wd.take ws.length = m.wd := List.take_of_length_le (by omega)
        rw [e0] at W3
        -- the ties
        refine ⟨_, rfl, d, _, rfl, mk_bd (s3 _ _ h1), b, rfl, ⟨_, .inl (.inl (s3 _ _ h5))⟩, for_list (K := K) (a := b) (xs := bs) (fun i σ H4 => ∃ (p : Addr) (y8 y9 y10 y11 : Option V), σ = [some (.ref d), some (.ref p), y, y3, y4, y5, y6, y7, y8, y9, y10, y11] ∧
          Same H H4 ∧ H p = none ∧ WebAt (CW K) H4 p ⟨m.last, m.own, m.wd, m.bd.take i⟩) ⟨p, none, none, none, none, rfl, s3, np, W3⟩ (fun i σ H4 _ ⟨_, _, _, _, _, _, s4, _⟩ => .inl (.inl (s4 _ _ h5))) ?_ ?_⟩
        · rintro i v σ H4 hv ⟨p, y8, y9, y10, y11, rfl, s4, np, W4⟩
          obtain ⟨t, y, rfl, ey, ht⟩ := row_of h6 hv
          have hi : i < m.bd.length := (List.getElem?_eq_some_iff.mp ey).1
          have hy := ok.bd y (List.mem_of_getElem? ey)
          obtain ⟨dx4, _, _, _, _, _, g1, _⟩ := W4.ex
          refine ⟨t, y.row, rfl, .inl (.inl (s4 _ _ ht)), rfl, _, _, rfl, _, _, rfl, _, _, rfl, _, _, rfl, rfl, ?_⟩
          refine ⟨_, rfl, p, dx4, _, rfl, g1, wf_no (by decide +kernel), _, rfl, _, rfl, _, rfl, _, rfl, rfl, rfl, p, _, y, rfl, W4, ⟨hy.one, hy.oth, hy.ne, hy.b, ?_⟩, fun r H5 s5 nr W5 => ?_⟩
          · show (m.bd.take i).length < 40
            rw [List.length_take]
            omega
          · refine ⟨r, _, _, _, _, rfl, s4.trans s5, s4.free nr, ?_⟩
            rw [List.take_add_one, ey]
            exact W5
        · rintro σ H4 ⟨p, y8, y9, y10, y11, rfl, s4, np, W4⟩
          have eb : bs.length = m.bd.length := by rw [h6.len, List.length_map]
          have e0 : m.bd.take bs.length = m.bd := List.take_of_length_le (by omega)
          rw [e0] at W4
          exact ⟨_, rfl, q p H4 s4 np W4⟩
end
end Tw

set_option maxHeartbeats 4000000
namespace Tw
open PySem PySem.Spec PyProof.Rows L2
/-- two values that are the same through and through, at most n deep -/
def Sm : Nat → V → V → Hp → Prop
  | 0, _, _, _ => False
  | n + 1, x, y, H => (x = y ∧ flatV x = true) ∨ ∃ (a b : Addr) (xs ys : List V), x = .ref a ∧ y = .ref b ∧ ((H a = some (.lst xs) ∧ H b = some (.lst ys)) ∨ (H a = some (.tup xs) ∧ H b = some (.tup ys))) ∧ xs.length = ys.length ∧ xs.length ≤ 1000 ∧
    ∀ (i : Nat) (x y : V), xs[i]? = some x → ys[i]? = some y → Sm n x y H
theorem Sm.same {H H' : Hp} (s : Same H H') : ∀ {n : Nat} {x y : V}, Sm n x y H → Sm n x y H'
  | 0, _, _, h => h.elim
  | n + 1, x, y, h => by
    rcases h with h | ⟨a, b, xs, ys, ex, ey, h, hl, hl2, hi⟩
    · exact .inl h
    · refine .inr ⟨a, b, xs, ys, ex, ey, ?_, hl, hl2, fun i x y h1 h2 => Sm.same s (hi i x y h1 h2)⟩
      rcases h with ⟨h1, h2⟩ | ⟨h1, h2⟩
      · exact .inl ⟨s _ _ h1, s _ _ h2⟩
      · exact .inr ⟨s _ _ h1, s _ _ h2⟩
theorem Sm.succ {H : Hp} : ∀ {n : Nat} {x y : V}, Sm n x y H → Sm (n + 1) x y H
  | 0, _, _, h => h.elim
  | n + 1, x, y, h => by
    rcases h with h | ⟨a, b, xs, ys, ex, ey, h, hl, hl2, hi⟩
    · exact .inl h
    · exact .inr ⟨a, b, xs, ys, ex, ey, h, hl, hl2, fun i x y h1 h2 => Sm.succ (hi i x y h1 h2)⟩
theorem Sm.flat {H : Hp} {n : Nat} {x : V} (h : flatV x = true) : Sm (n + 1) x x H := .inl ⟨rfl, h⟩
theorem sm_eq {H : Hp} {n : Nat} {x y : V} (e : x = y) (h : flatV x = true) : Sm (n + 1) x y H := by
  subst e
  exact Sm.flat h
theorem sm_lst {H : Hp} {a b : Addr} {xs ys : List V} {n : Nat} (h1 : H a = some (.lst xs)) (h2 : H b = some (.lst ys)) (hl : xs.length = ys.length) (h0 : xs.length ≤ 1000) (h : ∀ (i : Nat) (x y : V), xs[i]? = some x → ys[i]? = some y → Sm n x y H) : Sm (n + 1) (.ref a) (.ref b) H :=
  .inr ⟨a, b, xs, ys, rfl, rfl, .inl ⟨h1, h2⟩, hl, h0, h⟩
theorem sm_tup {H : Hp} {a b : Addr} {xs ys : List V} {n : Nat} (h1 : H a = some (.tup xs)) (h2 : H b = some (.tup ys)) (hl : xs.length = ys.length) (h0 : xs.length ≤ 1000) (h : ∀ (i : Nat) (x y : V), xs[i]? = some x → ys[i]? = some y → Sm n x y H) : Sm (n + 1) (.ref a) (.ref b) H :=
  .inr ⟨a, b, xs, ys, rfl, rfl, .inr ⟨h1, h2⟩, hl, h0, h⟩
theorem sm_flats {H : Hp} {xs : List V} {n : Nat} (hf : xs.all flatV = true) : ∀ (i : Nat) (x y : V), xs[i]? = some x → xs[i]? = some y → Sm (n + 1) x y H := fun i x y h1 h2 => by
  rw [h1] at h2
  cases h2
  exact Sm.flat (List.all_eq_true.mp hf x (List.mem_of_getElem? h1))
theorem sm_strs {H : Hp} {a b : Addr} {l : List Str} {n : Nat} (h1 : H a = some (.lst (l.map V.str))) (h2 : H b = some (.lst (l.map V.str))) (h0 : l.length ≤ 1000) : Sm (n + 2) (.ref a) (.ref b) H :=
  sm_lst h1 h2 rfl (by rw [List.length_map]; exact h0) (sm_flats (flat_strs l))
theorem sm_rows {H : Hp} {a b : Addr} {xs ys : List V} {rs : List (List V)} {n : Nat} (h1 : H a = some (.lst xs)) (h2 : H b = some (.lst ys)) (r1 : Rows H xs rs) (r2 : Rows H ys rs) (h0 : rs.length ≤ 1000) (hf : ∀ r ∈ rs, r.all flatV = true ∧ r.length ≤ 1000) : Sm (n + 3) (.ref a) (.ref b) H := by
  refine sm_lst h1 h2 (by rw [r1.len, r2.len]) (by rw [r1.len]; exact h0) fun i x y hx hy => ?_
  obtain ⟨t, r, rfl, hr, ht⟩ := r1.at hx
  obtain ⟨u, r', rfl, hr', hu⟩ := r2.at hy
  rw [hr] at hr'
  cases hr'
  have hr2 := hf r (List.mem_of_getElem? hr)
  exact sm_tup ht hu rfl hr2.2 (sm_flats hr2.1)
theorem rIx_of {K : PySem.W.Frag} {H : Hp} {a : Addr} {xs : List V} {i : Int} {v : V} {Q : VK} (h : SqL K H a xs ∨ SqT K H a xs) (e : atI xs i = some v) (q : Q v H) : rIx K (.ref a) (.int i) H Q := by
  rcases h with h | h
  · exact .inl ⟨a, xs, i, v, rfl, rfl, h, e, q⟩
  · exact .inr (.inl ⟨a, xs, i, v, rfl, rfl, h, e, q⟩)
theorem sq_same {K : PySem.W.Frag} {H H' : Hp} {a : Addr} {xs : List V} (s : Same H H') (h : SqL K H a xs ∨ SqT K H a xs) : SqL K H' a xs ∨ SqT K H' a xs := by
  rcases h with h | h
  · exact .inl (s.seq h)
  · refine .inr ?_
    rcases h with (h | ⟨o, h⟩) | h
    · exact .inl (.inl (s _ _ h))
    · exact .inl (.inr ⟨o, s _ _ h⟩)
    · exact .inr h
theorem lenV_of {K : PySem.W.Frag} {H : Hp} {a : Addr} {xs : List V} (h : SqL K H a xs ∨ SqT K H a xs) : LenV K (.ref a) H xs.length := by
  rcases h with h | h
  · exact .inl ⟨xs, h, rfl⟩
  · exact .inr ⟨xs, h, rfl⟩
section
variable {P : Program} {w : World} {K : PySem.W.Frag} {mg : Str → Option Value} {base : Heap}
def sp_same (n : Nat) : Sp := fun vs H Q _ => ∃ x y : V, vs = [x, y] ∧ Sm n x y H ∧ ∀ H', Same H H' → Q (.bl true) H'
theorem cal_same (T : Tp K mg) : ∀ n : Nat, Cal P w K mg base n "_law_same" (sp_same n)
  | 0 => by
    obtain ⟨fd, F⟩ := f__law_same T
    exact ⟨_, fd, ["_law_found", "_law_due"], [], ⟨fun vs H Q E h => by
      obtain ⟨x, y, rfl, _⟩ := h
      rfl, fun A outer s H args us vs Q E _ _ _ _ h => by
      obtain ⟨x, y, rfl, h, _⟩ := h
      exact h.elim⟩, g__law_same T, F.kp, b__law_same F, .nil⟩
  | n + 1 => by
    have ih := cal_same T n
    obtain ⟨fd, F⟩ := f__law_same T
    refine cal_of F (g__law_same T) (b__law_same F) sc__law_same (fun vs H Q E h => ?_) (fun cdv A outer s H vs Q E hr h => ?_)
    · obtain ⟨x, y, rfl, _⟩ := h
      rfl
    · obtain ⟨x, y, rfl, h, q⟩ := h
      refine ⟨_, (pss_cons (ps_if (pt_val (pe_callB call_isK (by rfl) (z_isinstance T) bb_isinstance (pa_cons (pv 1) (pa_cons (pe_bltn (v := .ty "bool") (by rfl) (z_bool T) bb_bool rfl) pa_nil)))) (pss_one (ps_ret (pe_and (pe_callB call_isK (by rfl) (z_isinstance T) bb_isinstance (pa_cons (pv 0) (pa_cons (pe_bltn (v := .ty "bool") (by rfl) (z_bool T) bb_bool rfl) pa_nil))) (pe_one (pe_cmpR op_eq (pv 0) (pv 1) (nomark _)))))) pss_nil)
      (pss_cons (ps_if (pt_cmpR op_isN (pv 1) pe_non (nomark _)) (pss_one (ps_ret (pe_cmpR op_isN (pv 0) pe_non (nomark _)))) pss_nil)
      (pss_cons (ps_if (pt_val (pe_callB call_isK (by rfl) (z_isinstance T) bb_isinstance (pa_cons (pv 1) (pa_cons (pe_bltn (v := .ty "int") (by rfl) (z_int T) bb_int rfl) pa_nil)))) (pss_cons (ps_if (PW.pt (pw_or (pt_val (pe_callB call_isK (by rfl) (z_isinstance T) bb_isinstance (pa_cons (pv 0) (pa_cons (pe_bltn (v := .ty "bool") (by rfl) (z_bool T) bb_bool rfl) pa_nil)))) (pw_or1 (pt_not (pt_val (pe_callB call_isK (by rfl) (z_isinstance T) bb_isinstance (pa_cons (pv 0) (pa_cons (pe_bltn (v := .ty "int") (by rfl) (z_int T) bb_int rfl) pa_nil)))))))) (pss_one (ps_ret pe_bl)) pss_nil)
        (pss_one (ps_ret (pe_cmpR op_eq (pv 0) (pv 1) (nomark _))))) pss_nil)
      (pss_cons (ps_if (pt_val (pe_callB call_isK (by rfl) (z_isinstance T) bb_isinstance (pa_cons (pv 1) (pa_cons (pe_bltn (v := .ty "str") (by rfl) (z_str T) bb_str rfl) pa_nil)))) (pss_one (ps_ret (pe_and (pe_callB call_isK (by rfl) (z_isinstance T) bb_isinstance (pa_cons (pv 0) (pa_cons (pe_bltn (v := .ty "str") (by rfl) (z_str T) bb_str rfl) pa_nil))) (pe_one (pe_cmpR op_eq (pv 0) (pv 1) (nomark _)))))) pss_nil)
      (pss_cons (ps_if (pt_val (pe_callB call_isK (by rfl) (z_isinstance T) bb_isinstance (pa_cons (pv 1) (pa_cons (pe_bltn (v := .ty "dict") (by rfl) (z_dict T) bb_dict rfl) pa_nil)))) pss_never pss_nil)
      (pss_cons (ps_if (PW.pt (pw_and (pt_val (pe_callB call_isK (by rfl) (z_isinstance T) bb_isinstance (pa_cons (pv 1) (pa_cons (pe_bltn (v := .ty "tuple") (by rfl) (z_tuple T) bb_tuple rfl) pa_nil)))) (pw_and1 (pt_not (pt_val (pe_callB call_isK (by rfl) (z_isinstance T) bb_isinstance (pa_cons (pv 0) (pa_cons (pe_bltn (v := .ty "tuple") (by rfl) (z_tuple T) bb_tuple rfl) pa_nil)))))))) (pss_one (ps_ret pe_bl)) pss_nil)
      (pss_cons (ps_if (PW.pt (pw_and (pt_val (pe_callB call_isK (by rfl) (z_isinstance T) bb_isinstance (pa_cons (pv 1) (pa_cons (pe_bltn (v := .ty "list") (by rfl) (z_list T) bb_list rfl) pa_nil)))) (pw_and1 (pt_not (pt_val (pe_callB call_isK (by rfl) (z_isinstance T) bb_isinstance (pa_cons (pv 0) (pa_cons (pe_bltn (v := .ty "list") (by rfl) (z_list T) bb_list rfl) pa_nil)))))))) (pss_one (ps_ret pe_bl)) pss_nil)
      (pss_cons (ps_if (pt_cmpR op_ne (pe_callB call_len (by rfl) (z_len T) bb_len (pa_cons (pv 0) pa_nil)) (pe_callB call_len (by rfl) (z_len T) bb_len (pa_cons (pv 1) pa_nil)) (nomark _)) (pss_one (ps_ret pe_bl)) pss_nil)
      (pss_one (ps_ret (pe_callB (cr_all rfl) (by rfl) (z_all T) bb_all (pa_cons (pe_lc (own := [("_law_k", 3)]) (g := gName 3) (tt := tYes) rfl sc__law_same.nd (pi_range1 rfl (z_range T) (pa_cons (pe_callB call_len (by rfl) (z_len T) bb_len (pa_cons (pv 1) pa_nil)) pa_nil)) (blkOk_by (N := N__law_same) (sc := defScope s__law_same) (by decide +kernel)) (fun _ _ _ _ _ => (pg_name (i := 3) sc__law_same.nd rfl (.inl rfl))) (fun _ _ _ _ _ => pts_nil) (fun _ _ _ _ _ => (C8.pe_c ih hr (Nat.le_refl _) rfl (pa_cons (pe_ix (ix_seqK (K := K) rfl) (pv 0) (pv 3) (fun _ _ => rfl)) (pa_cons (pe_ix (ix_seqK (K := K) rfl) (pv 1) (pv 3) (fun _ _ => rfl)) pa_nil))))) pa_nil)))))))))))), ?_⟩
      rcases h with ⟨e, fl⟩ | ⟨a, b, xs, ys, ex, ey, hk, hl, hl2, hi⟩
      · subst e
        cases x with
        | bl v =>
          refine ⟨_, rfl, _, "bool", "bool", rfl, .base (.bl _), by decide, by decide, _, rfl, iteT ⟨_, rfl, _, "bool", "bool", rfl, .base (.bl _), by decide, by decide, _, rfl, iteT ⟨_, rfl, _, rfl, rfl, ?_⟩⟩⟩
          rw [decide_eq_true rfl]
          exact q H (Same.refl H)
        | non =>
          refine ⟨_, rfl, _, "bool", "NoneType", rfl, .base .non, by decide, by decide, _, rfl, iteF ⟨_, rfl, rfl, _, rfl, ?_⟩⟩
          rw [decide_eq_true rfl]
          refine iteT ⟨_, rfl, rfl, ?_⟩
          exact q H (Same.refl H)
        | int i =>
          refine ⟨_, rfl, _, "bool", "int", rfl, .base (.int _), by decide, by decide, _, rfl, iteF ⟨_, rfl, rfl, _, rfl, ?_⟩⟩
          rw [decide_eq_false (show ¬ V.int i = V.non by intro z; cases z)]
          refine iteF ⟨_, rfl, _, "int", "int", rfl, .base (.int _), by decide, by decide, _, rfl, iteT ⟨_, rfl, _, "bool", "int", rfl, .base (.int _), by decide, by decide, _, rfl, iteF ⟨_, rfl, _, "int", "int", rfl, .base (.int _), by decide, by decide, _, rfl, iteF ⟨_, rfl, _, rfl, rfl, ?_⟩⟩⟩⟩
          rw [decide_eq_true rfl]
          exact q H (Same.refl H)
        | str z =>
          refine ⟨_, rfl, _, "bool", "str", rfl, .base (.str _), by decide, by decide, _, rfl, iteF ⟨_, rfl, rfl, _, rfl, ?_⟩⟩
          rw [decide_eq_false (show ¬ V.str z = V.non by intro z; cases z)]
          refine iteF ⟨_, rfl, _, "int", "str", rfl, .base (.str _), by decide, by decide, _, rfl, iteF ⟨_, rfl, _, "str", "str", rfl, .base (.str _), by decide, by decide, _, rfl, iteT ⟨_, rfl, _, "str", "str", rfl, .base (.str _), by decide, by decide, _, rfl, iteT ⟨_, rfl, _, rfl, rfl, ?_⟩⟩⟩⟩
          rw [decide_eq_true rfl]
          exact q H (Same.refl H)
        | byt _ => cases fl
        | flt _ => cases fl
        | ref _ => cases fl
        | ty _ => cases fl
      · subst ex ey
        have sx : SqL K H a xs ∨ SqT K H a xs := by
          rcases hk with ⟨h1, h2⟩ | ⟨h1, h2⟩
          · exact .inl (.inl (.inl h1))
          · exact .inr (.inl (.inl h1))
        have sy : SqL K H b ys ∨ SqT K H b ys := by
          rcases hk with ⟨h1, h2⟩ | ⟨h1, h2⟩
          · exact .inl (.inl (.inl h2))
          · exact .inr (.inl (.inl h2))
        have nn : ¬ V.ref b = V.non := by intro z; cases z
        rcases hk with ⟨h1, h2⟩ | ⟨h1, h2⟩
        · refine ⟨_, rfl, _, "bool", "list", rfl, .base (.lst h2), by decide, by decide, _, rfl, iteF ⟨_, rfl, rfl, _, rfl, ?_⟩⟩
          rw [decide_eq_false nn]
          refine iteF ⟨_, rfl, _, "int", "list", rfl, .base (.lst h2), by decide, by decide, _, rfl, iteF ⟨_, rfl, _, "str", "list", rfl, .base (.lst h2), by decide, by decide, _, rfl, iteF ⟨_, rfl, _, "dict", "list", rfl, .base (.lst h2), by decide, by decide, _, rfl, iteF
            ⟨_, rfl, _, "tuple", "list", rfl, .base (.lst h2), by decide, by decide, _, rfl, iteF (iteF ⟨_, rfl, _, "list", "list", rfl, .base (.lst h2), by decide, by decide, _, rfl, iteT ⟨_, rfl, _, "list", "list", rfl, .base (.lst h1), by decide, by decide, _, rfl, iteF ?_⟩⟩)⟩⟩⟩⟩
          refine ⟨_, rfl, _, _, rfl, lenV_of sx, _, rfl, _, _, rfl, lenV_of sy, rfl, _, rfl, ?_⟩
          refine iteNS (by rw [hl]) ?_
          refine ⟨_, rfl, _, _, rfl, lenV_of sy, _, rfl, by omega, by omega, fun D nD => ?_⟩
          refine lc_range (lo := 0) (n := ys.length) (fun i H1 => Same H H1 ∧ H1 D = some (.lst ((List.replicate i true).map V.bl))) ⟨same_upd nD, upd_same⟩ ?_ ?_
          · rintro i H1 hi1 ⟨s1, d1⟩
            have hx : i < xs.length := by omega
            refine ⟨rfl, yes_i (iteT ⟨_, rfl, _, rfl, rIx_of (v := xs[i]) (sq_same s1 sx) (at_of (j := i) (by omega) (List.getElem?_eq_getElem hx)) ⟨_, rfl, _, rfl, rIx_of (v := ys[i]) (sq_same s1 sy) (at_of (j := i) (by omega) (List.getElem?_eq_getElem hi1)) ⟨_, _, rfl, (hi i _ _ (List.getElem?_eq_getElem hx) (List.getElem?_eq_getElem hi1)).same s1, fun H2 s2 => ⟨_, s2 _ _ d1, ?_, ?_, ?_⟩⟩⟩⟩)⟩
            · rw [List.length_map, List.length_replicate]
              exact small1000 (by omega)
            · exact same_put (s1.trans s2) nD
            · rw [upd_same, List.replicate_succ', List.map_append]
              rfl
          · rintro H1 ⟨s1, d1⟩
            refine ⟨D, _, rfl, .inl (.inl d1), ?_⟩
            rw [show (List.replicate ys.length true).all id = true by simp]
            exact q H1 s1
        · refine ⟨_, rfl, _, "bool", "tuple", rfl, .base (.tup h2), by decide, by decide, _, rfl, iteF ⟨_, rfl, rfl, _, rfl, ?_⟩⟩
          rw [decide_eq_false nn]
          refine iteF ⟨_, rfl, _, "int", "tuple", rfl, .base (.tup h2), by decide, by decide, _, rfl, iteF ⟨_, rfl, _, "str", "tuple", rfl, .base (.tup h2), by decide, by decide, _, rfl, iteF ⟨_, rfl, _, "dict", "tuple", rfl, .base (.tup h2), by decide, by decide, _, rfl, iteF
            ⟨_, rfl, _, "tuple", "tuple", rfl, .base (.tup h2), by decide, by decide, _, rfl, iteT ⟨_, rfl, _, "tuple", "tuple", rfl, .base (.tup h1), by decide, by decide, _, rfl, iteF ⟨_, rfl, _, "list", "tuple", rfl, .base (.tup h2), by decide, by decide, _, rfl, iteF (iteF ?_)⟩⟩⟩⟩⟩⟩
          refine ⟨_, rfl, _, _, rfl, lenV_of sx, _, rfl, _, _, rfl, lenV_of sy, rfl, _, rfl, ?_⟩
          refine iteNS (by rw [hl]) ?_
          refine ⟨_, rfl, _, _, rfl, lenV_of sy, _, rfl, by omega, by omega, fun D nD => ?_⟩
          refine lc_range (lo := 0) (n := ys.length) (fun i H1 => Same H H1 ∧ H1 D = some (.lst ((List.replicate i true).map V.bl))) ⟨same_upd nD, upd_same⟩ ?_ ?_
          · rintro i H1 hi1 ⟨s1, d1⟩
            have hx : i < xs.length := by omega
            refine ⟨rfl, yes_i (iteT ⟨_, rfl, _, rfl, rIx_of (v := xs[i]) (sq_same s1 sx) (at_of (j := i) (by omega) (List.getElem?_eq_getElem hx)) ⟨_, rfl, _, rfl, rIx_of (v := ys[i]) (sq_same s1 sy) (at_of (j := i) (by omega) (List.getElem?_eq_getElem hi1)) ⟨_, _, rfl, (hi i _ _ (List.getElem?_eq_getElem hx) (List.getElem?_eq_getElem hi1)).same s1, fun H2 s2 => ⟨_, s2 _ _ d1, ?_, ?_, ?_⟩⟩⟩⟩)⟩
            · rw [List.length_map, List.length_replicate]
              exact small1000 (by omega)
            · exact same_put (s1.trans s2) nD
            · rw [upd_same, List.replicate_succ', List.map_append]
              rfl
          · rintro H1 ⟨s1, d1⟩
            refine ⟨D, _, rfl, .inl (.inl d1), ?_⟩
            rw [show (List.replicate ys.length true).all id = true by simp]
            exact q H1 s1
/-- as it is asked by the laws: data at most six deep -/
theorem cal__law_same (T : Tp K mg) : Cal P w K mg base 7 "_law_same" (sp_same 7) := cal_same T 7
end
end Tw

set_option maxHeartbeats 4000000
namespace Tw
open PySem PySem.Spec PyProof.Rows L2
section
variable {prog : Program} {w : World} {A : Around} {E : Value → Shared → Prop} {s : Shared} {K : PySem.W.Frag} {x C L f : Addr} {h₀ : Heap} {m : Str → Option Value} {ox : Obj} {od : Option Obj}
open PySem.W PySem.Calls Builtin in
/-- what truthy's own call of len finds: the answer of __len__, in its bounds -/
theorem len_ownBody {Q : Value → Shared → Prop} (X : K.In s.heap) (I : InstAt s.heap x ox C od) (hs : findIn K (.ref C) "__len__" = some (some (.ref f))) (hf : isFn K (.ref f) = true)
    (h : wpAny (model prog w) A (call (.ref f) [.ref x]) (PySem.W.LenBack Q) E s) : wpAny (model prog w) A (Builtin.«len» ⟨[.ref x], []⟩) (fun fin s' => ∃ r, fin = .done (.ret r) ∧ Q r s') E s := by
  have ask : ∀ {R : Option Value → Shared → Prop}, (∀ n u s', (0 ≤ n ∧ n < 2 ^ 63) → Q (.int n s'.toks) { s' with toks := s'.toks + 1 } → R (some (.int n u)) s') → wpAny (model prog w) A (callSpecial? (.ref x) (Str.ofString "__len__")) R E s := fun {R} k =>
    special_fn X I hs (beq_iff_eq.mp hf) (wpAny_mono h (fun r s' back => by
      cases r with
      | int n u => exact k n u s' back.1 back.2
      | _ => exact False.elim back) fun _ _ y => y)
  unfold Builtin.«len»
  repeat (first | with_reducible refine ask fun n u s' bnd back => ?_ | wp_step)
  rw [if_neg (Int.not_le.mpr bnd.2)]
  repeat wp_step
  exact ⟨_, rfl, back⟩
open PySem.W PySem.Calls Builtin in
theorem truthy_own {Q : Bool → Shared → Prop} (X : K.In s.heap) (I : InstAt s.heap x ox C od) (hb : findIn K (.ref C) "__bool__" = some none) (hs : findIn K (.ref C) "__len__" = some (some (.ref f))) (hf : isFn K (.ref f) = true)
    (h : wpAny (model prog w) A.in1 (call (.ref f) [.ref x]) (PySem.W.LenBack fun v s' => ∃ n t, v = .int n t ∧ Q (n != 0) s') E s) : wpAny (model prog w) A (truthy (.ref x)) Q E s := by
  have counted : ∀ {R : Value → Shared → Prop}, (∀ n t s', Q (n != 0) s' → R (.int n t) s') → wpAny (model prog w) A (runValue (.builtin "len" ⟨[.ref x], []⟩)) R E s := fun {R} k =>
    wpAny_runValue (codeAny_builtin entry_len (by
      rw [Around.under_plainId plain_len]
      refine wpAny_mono (len_ownBody X I hs hf h) ?_ fun _ _ z => z
      rintro _ s' ⟨_, rfl, n, t, rfl, q⟩
      exact k n t s' q))
  have noBool := looks_findIn (M := model prog w) X hb
  have hasLen := looks_findIn (M := model prog w) X hs
  unfold truthy callSpecial? specialOf
  repeat (first | with_reducible refine I.type.here ?_ | with_reducible refine noBool.here ?_ | with_reducible refine hasLen.here ?_ | with_reducible refine counted fun n t s' q => ?_ | assumption | wp_step)
theorem bool_new (l : Addr) : MeetsIn prog w (Builtin.«bool.__new__» ⟨[.type "bool", .ref l], []⟩) (fun A R s => wpAny (model prog w) A.in1 (truthy (.ref l)) (fun b s' => R (.ok (.ret (.bool b))) s') (fun e s' => R (.error e) s') s) :=
  .of_wp fun A R s hs => by
    have f1 := PySem.F.conv_sub_bool
    obtain ⟨hp, g, d, tk, os⟩ := s
    have ht : ∀ {Q : Bool → Shared → Prop}, (∀ b s', R (.ok (.ret (.bool b))) s' → Q b s') → wpAny (model prog w) A.in1 (truthy (.ref l)) Q (fun e s' => R (.error e) s') (Shared.mk hp g d tk os) := fun h => wpAny_mono hs (fun b s' z => h b s' z) fun _ _ z => z
    repeat (any_goals (first | assumption | (with_reducible refine ht fun b s' z => ?_) | wp_step))
    all_goals exact ⟨_, rfl, z⟩
end
section
variable {X : Cx} {k j : Nat} {C : Addr} {sp : Sp}
/-- bool(o) by an own __len__ -/
def rBoolO (C : Addr) (sp : Sp) : List V → Hp → VK → Prop := fun xs H Q => ∃ a dx fs, xs = [.ref a] ∧ H a = some (.ins C dx fs) ∧ sp [.ref a] H (fun v H' => ∃ i : Int, v = .int i ∧ 0 ≤ i ∧ i < 2 ^ 63 ∧ Q (.bl (i != 0)) H') E0
theorem call_boolO (c : Met X.prog X.w X.K X.mg X.base k C "__len__" sp) (nb : NoAttr X.K C "__bool__") (hr : Room j X.A) (hk : k + 3 ≤ j) : CallR X (.type "bool") (rBoolO C sp) := by
  rintro pins s σ H _ us Q I r ⟨a, dx, fs, rfl, here, q⟩
  obtain rfl := Vals.ref1 r
  obtain ⟨f, hs, hf, F⟩ := own0 c
  obtain ⟨_, J0, _⟩ := ins_get I.hok here
  obtain ⟨_, J, _⟩ := J0.look
  have room : Room k X.A.in1.in1.in1 := (hr.mono hk).in1.in1.in1
  refine callType_newIn PySem.F.called_bool PySem.F.newNe_bool (PySem.F.typeCall_bool_1 _) (PySem.F.newCall_bool_1 _) (fun obj => PySem.F.args_object_init_2 obj _) PySem.F.entry_bool_new (bool_new a) ?_
  refine truthy_own I.kIn J nb hs hf (thn (wpAny_call (SlX.run_at F room I.env0.in1.in1.in1 pass0 I r q)) ?_)
  rintro _ s1 ⟨_, H1, I1, rv, i, rfl, low, high, q1⟩
  obtain ⟨_, rfl⟩ := rv
  exact ⟨⟨low, high⟩, i, _, rfl, rfl, .bl (i != 0), H1, I1.tok _, rfl, q1⟩
end
end Tw

set_option maxHeartbeats 4000000
namespace Tw
open PySem PySem.Spec PyProof.Rows L2
theorem wd_flat (l : List Wd) : ∀ r ∈ l.map Wd.row, r.all flatV = true ∧ r.length ≤ 1000 := fun r h => by
  obtain ⟨x, _, rfl⟩ := List.mem_map.mp h
  refine ⟨?_, by show 5 ≤ 1000; decide⟩
  unfold Wd.row
  cases x.la <;> rfl
theorem bd_flat (l : List Bd) : ∀ r ∈ l.map Bd.row, r.all flatV = true ∧ r.length ≤ 1000 := fun r h => by
  obtain ⟨x, _, rfl⟩ := List.mem_map.mp h
  refine ⟨?_, by show 4 ≤ 1000; decide⟩
  unfold Bd.row
  cases x.bot <;> cases x.top <;> rfl
theorem sm_three {H : Hp} {a b : Addr} {x1 x2 x3 y1 y2 y3 : V} {n : Nat} (h1 : H a = some (.lst [x1, x2, x3])) (h2 : H b = some (.lst [y1, y2, y3])) (e1 : Sm n x1 y1 H) (e2 : Sm n x2 y2 H) (e3 : Sm n x3 y3 H) : Sm (n + 1) (.ref a) (.ref b) H := by
  refine sm_lst h1 h2 rfl (by show 3 ≤ 1000; decide) fun i x y hx hy => ?_
  match i, hx, hy with
  | 0, hx, hy =>
    cases hx
    cases hy
    exact e1
  | 1, hx, hy =>
    cases hx
    cases hy
    exact e2
  | 2, hx, hy =>
    cases hx
    cases hy
    exact e3
theorem empty_web : Str.empty ++ ("Web(" : Str) = ("Web(" : Str) := by decide +kernel
section
variable {P : Program} {w : World} {K : PySem.W.Frag} {mg : Str → Option Value} {base : Heap}
def sp_stands (K : PySem.W.Frag) : Sp := fun vs H Q _ => ∃ (p d : Addr) (m : Md), vs = [.ref p, .ref d] ∧ WebAt (CW K) H p m ∧ MdAt H d m ∧ ∀ H', Same H H' → Q (.bl true) H'
theorem cal__law_stands (T : Tp K mg) : Cal P w K mg base 9 "_law_stands" (sp_stands K) := by
  obtain ⟨fd, F⟩ := f__law_stands T
  refine cal_of F (g__law_stands T) (b__law_stands F) sc__law_stands (fun vs H Q E h => ?_) (fun cdv A outer s H vs Q E hr h => ?_)
  · obtain ⟨p, d, m, rfl, _⟩ := h
    rfl
  · obtain ⟨p, d, m, rfl, W, M, q⟩ := h
    have hu := hu_of hr
    have hlen := W.len
    have hlast := W.last
    have hpts := pts_len W
    refine ⟨_, (pss_cons (ps_set (i := 2) sc__law_stands.nd rfl (.inl rfl) (C8.pe_c (cal__law_points T) hr (by decide) rfl (pa_cons (pv 1) pa_nil)))
      (pss_cons (ps_set (i := 3) sc__law_stands.nd rfl (.inl rfl) (pe_lst (pa_cons (pe_fld (pv 0) rfl) (pa_cons (C8.pe_mt0 (met_Web_moments T) hr (by decide) (pv 0)) (pa_cons (C8.pe_mt0 (met_Web_spans T) hr (by decide) (pv 0)) pa_nil)))))
      (pss_cons (ps_if (pt_not (pt_val (C8.pe_c (cal__law_same T) hr (by decide) rfl (pa_cons (pv 3) (pa_cons (pe_lst (pa_cons (pe_dget hu (pv 1) pe_str (fun _ _ => rfl)) (pa_cons (pe_dget hu (pv 1) pe_str (fun _ _ => rfl)) (pa_cons (pe_dget hu (pv 1) pe_str (fun _ _ => rfl)) pa_nil)))) pa_nil))))) (pss_one (ps_ret pe_bl)) pss_nil)
      (pss_cons (ps_set (i := 3) sc__law_stands.nd rfl (.inl rfl) (pe_lst (pa_cons (C8.pe_mt0 (met_Web_ties T) hr (by decide) (pv 0)) (pa_cons (C8.pe_mt0 (met_Web_points T) hr (by decide) (pv 0)) (pa_cons (pe_callB (call_lenO (met_Web_UlenU T) hr (by decide)) (by rfl) (z_len T) bb_len (pa_cons (pv 0) pa_nil)) pa_nil)))))
      (pss_cons (ps_if (pt_not (pt_val (C8.pe_c (cal__law_same T) hr (by decide) rfl (pa_cons (pv 3) (pa_cons (pe_lst (pa_cons (pe_dget hu (pv 1) pe_str (fun _ _ => rfl)) (pa_cons (pv 2) (pa_cons (pe_callB call_len_seq (by rfl) (z_len T) bb_len (pa_cons (pv 2) pa_nil)) pa_nil)))) pa_nil))))) (pss_one (ps_ret pe_bl)) pss_nil)
      (pss_cons (ps_set (i := 4) sc__law_stands.nd rfl (.inl rfl) (pe_op op_add_str (pe_op op_add_str pe_str (pe_callTy call_str_int (by rfl) (z_str T) bb_str (pa_cons (pe_callB call_len_seq (by rfl) (z_len T) bb_len (pa_cons (pv 2) pa_nil)) pa_nil))) pe_str))
      (pss_cons (ps_set (i := 4) sc__law_stands.nd rfl (.inl rfl) (pe_op op_add_str (pe_op op_add_str (pe_op op_add_str (pe_op op_add_str (pv 4) (pe_callTy call_str_int (by rfl) (z_str T) bb_str (pa_cons (pe_callB call_len_seq (by rfl) (z_len T) bb_len (pa_cons (pe_dget hu (pv 1) pe_str (fun _ _ => rfl)) pa_nil)) pa_nil))) pe_str) (pe_callTy call_str_int (by rfl) (z_str T) bb_str (pa_cons (pe_dget hu (pv 1) pe_str (fun _ _ => rfl)) pa_nil))) pe_str))
      (pss_one (ps_ret (C8.pe_c (cal__law_same T) hr (by decide) rfl (pa_cons (pe_callB (call_reprO (met_Web_UreprU T) hr (by decide)) (by rfl) (z_repr T) bb_repr (pa_cons (pv 0) pa_nil)) (pa_cons (pv 4) pa_nil)))))))))))), ?_⟩
    refine ⟨_, rfl, d, m, rfl, M, by omega, by omega, fun pl H1 s1 npl hpl => ?_⟩
    have W1 := W.same s1
    obtain ⟨dx, a, b, c, ws, bs, h1, h2, h3, h4, h5, h6⟩ := W1.ex
    -- found = [web.by, web.moments(), web.spans()]
    refine ⟨_, rfl, p, CW K, dx, _, _, rfl, h1, cl_Web T, na_by T, wf_by, _, rfl, p, dx, _, rfl, h1, wf_no (by decide +kernel), p, m, rfl, W1, fun k1 n1 => ?_⟩
    have t1 := same_upd (o := .lst (m.own.map V.str)) n1
    have W2 := W1.same t1
    refine ⟨_, rfl, p, dx, _, rfl, t1 _ _ h1, wf_no (by decide +kernel), p, m, rfl, W2, fun ws2 k2 r2 n2 => ⟨by show 3 ≤ sizeLine; decide, fun l n3 => ?_⟩⟩
    have t2 := same_upd (o := .lst ws2) n2
    have t3 := same_upd (o := .lst [.int m.last, .ref k1, .ref k2]) n3
    have e1 := t3 _ _ (t2 _ _ (upd_same (H := H1) (a := k1) (o := .lst (m.own.map V.str))))
    have e2 := t3 _ _ (upd_same (H := upd H1 k1 (.lst (m.own.map V.str))) (a := k2) (o := .lst ws2))
    have sA := ((s1.trans t1).trans t2).trans t3
    obtain ⟨o, u, v, us, vs, g1, g2, g3, g4, g5, g6, g7⟩ := (M.same sA).ex
    -- [m['by'], m['own'], m['winds']]
    refine ⟨_, rfl, _, rfl, d, _, rfl, mk_by g1, _, rfl, d, _, rfl, mk_own g1, _, rfl, d, _, rfl, mk_wd g1, (by show 3 ≤ sizeLine; decide), fun l2 n4 => ?_⟩
    have t4 := same_upd (o := .lst [.int m.last, .ref o, .ref u]) n4
    refine ⟨_, _, rfl, sm_three (t4 _ _ upd_same) upd_same (Sm.flat rfl) (sm_strs (t4 _ _ e1) (t4 _ _ g2) (by omega)) (sm_rows (t4 _ _ e2) (t4 _ _ g3) (r2.keep (Kt.of (((t2).trans t3).trans t4))) (g4.keep (Kt.of t4)) (by rw [List.length_map]; omega) (wd_flat _)), fun H5 s5 => ⟨_, rfl, iteF ?_⟩⟩
    -- found = [web.ties(), web.points(), len(web)]
    have sB := (sA.trans t4).trans s5
    have W5 := W.same sB
    obtain ⟨dx5, a5, b5, c5, ws5, bs5, f1, f2, f3, f4, f5, f6⟩ := W5.ex
    refine ⟨_, rfl, p, dx5, _, rfl, f1, wf_no (by decide +kernel), p, m, rfl, W5, fun bs6 k5 r6 n5 => ?_⟩
    have t5 := same_upd (o := .lst bs6) n5
    have W6 := W5.same t5
    refine ⟨_, rfl, p, dx5, _, rfl, t5 _ _ f1, wf_no (by decide +kernel), p, m, rfl, W6, fun k6 H6 s6 n6 e6 => ?_⟩
    have W7 := W6.same s6
    refine ⟨_, rfl, p, dx5, _, rfl, s6 _ _ (t5 _ _ f1), p, m, rfl, W7, fun H7 s7 => ⟨_, rfl, by omega, by omega, by show 3 ≤ sizeLine; decide, fun l5 n7 => ?_⟩⟩
    have t7 := same_upd (o := .lst [.ref k5, .ref k6, .int (m.pts.length : Nat)]) n7
    have sC := (((t5.trans s6).trans s7).trans t7)
    have ek5 := t7 _ _ (s7 _ _ (s6 _ _ (upd_same (H := H5) (a := k5) (o := .lst bs6))))
    have ek6 := t7 _ _ (s7 _ _ e6)
    have sD := sB.trans sC
    obtain ⟨o8, u8, v8, us8, vs8, j1, j2, j3, j4, j5, j6, j7⟩ := (M.same sD).ex
    have epl := sC _ _ (s5 _ _ (t4 _ _ (t3 _ _ (t2 _ _ (t1 _ _ hpl)))))
    refine ⟨_, rfl, _, rfl, d, _, rfl, mk_bd j1, _, rfl, _, rfl, pl, _, rfl, .inl (.inl (.inl epl)), (by show 3 ≤ sizeLine; decide), fun l6 n8 => ?_⟩
    have t8 := same_upd (o := .lst [.ref v8, .ref pl, .int ((m.pts.map V.str).length : Nat)]) n8
    refine ⟨_, _, rfl, sm_three (t8 _ _ upd_same) upd_same (sm_rows (t8 _ _ ek5) (t8 _ _ j5) (r6.keep (Kt.of (sC.trans t8))) (j6.keep (Kt.of t8)) (by rw [List.length_map]; omega) (bd_flat _)) (sm_strs (t8 _ _ ek6) (t8 _ _ epl) (by omega)) (by rw [List.length_map]; exact Sm.flat rfl), fun H9 s9 => ⟨_, rfl, iteF ?_⟩⟩
    -- the text
    have sE := (sD.trans t8).trans s9
    have epl9 := s9 _ _ (t8 _ _ epl)
    have W9 := W.same sE
    obtain ⟨dx9, a9, b9, c9, ws9, bs9, w1, w2, w3, w4, w5, w6⟩ := W9.ex
    obtain ⟨o9, u9, v9, us9, vs9, i1, i2, i3, i4, i5, i6, i7⟩ := (M.same sE).ex
    have hvs : vs9.length = m.bd.length := by rw [i6.len, List.length_map]
    have l0 : ("Web(" : Str).length ≤ 4 := by decide +kernel
    have l1 := num_le (i := (m.pts.length : Nat)) (by omega) (by omega)
    have l2 : (" points, " : Str).length ≤ 9 := by decide +kernel
    have l3 := num_le (i := (m.bd.length : Nat)) (by omega) (by omega)
    have l4 : (" ties, by " : Str).length ≤ 10 := by decide +kernel
    have l5 := num_le (i := m.last) (by omega) (by omega)
    have l6 : (")" : Str).length ≤ 1 := by decide +kernel
    have fits : ∀ {x y : Str} {i j : Nat}, x.length ≤ i → y.length ≤ j → i + j ≤ 1000 → x.length + y.length ≤ sizeLine := fun h1 h2 h3 => Nat.le_of_lt (small1000 (by omega))
    have m1 := app_le l0 l1
    have m2 := app_le m1 l2
    have m3 := app_le m2 l3
    have m4 := app_le m3 l4
    have m5 := app_le m4 l5
    refine ⟨_, rfl, pl, _, rfl, .inl (.inl (.inl epl9)), _, rfl, ?_, ?_⟩
    · rw [List.length_map]
      exact num_log (by omega) (by omega)
    · rw [List.length_map]
      refine ⟨_, _, rfl, rfl, fits l0 l1 (by decide), _, _, rfl, rfl, fits m1 l2 (by decide), ?_⟩
      refine ⟨_, rfl, _, rfl, d, _, rfl, mk_bd i1, v9, _, rfl, .inl (.inl (.inl i5)), _, rfl, by rw [hvs]; exact num_log (by omega) (by omega), ?_⟩
      rw [hvs]
      refine ⟨_, _, rfl, rfl, fits m2 l3 (by decide), _, _, rfl, rfl, fits m3 l4 (by decide), _, rfl, d, _, rfl, mk_by i1, _, rfl, num_log (by omega) (by omega), _, _, rfl, rfl, fits m4 l5 (by decide), _, _, rfl, rfl, fits m5 l6 (by decide), ?_⟩
      refine ⟨_, rfl, p, dx9, _, rfl, w1, p, m, rfl, W9, fun H10 s10 => ⟨_, rfl, _, rfl, _, _, rfl, sm_eq ?_ rfl, fun H11 s11 => q H11 ((sE.trans s10).trans s11)⟩⟩
      unfold webText
      rw [empty_web]
      rfl
end
end Tw

set_option maxHeartbeats 4000000
namespace Tw
open PySem PySem.Spec PyProof.Rows L2
/-! ### laying, in plain words -/
def offW (z : Str) : List Wd → Str × Int × Int
  | [] => (z, 0, 0)
  | x :: r => if x.en = z then (match x.la with
    | none => (x.bg, x.lo, x.hi)
    | some i => (x.en, -i, -i)) else offW z r
def offRow (r : Str × Int × Int) : List V := [.str r.1, .int r.2.1, .int r.2.2]
def hs (l : List Wd) : List (Str × Str × Int × Int) := l.filterMap fun x => x.la.map fun i => (x.en, x.bg, x.lo + i, x.hi + i)
def hRow (h : Str × Str × Int × Int) : List V := [.str h.1, .str h.2.1, .int h.2.2.1, .int h.2.2.2]
def mRows (l : Int) (z : Str) : List (List V) := [[.str "start", .str z, .int l], [.str z, .str "start", .int 0]]
def h2Rows (h : Str × Str × Int × Int) : List (List V) := [[.str h.2.1, .str h.1, .int h.2.2.2], [.str h.1, .str h.2.1, .int (-h.2.2.1)]]
def topRow (a b : Str × Int × Int) : Option Int → List (List V)
  | none => []
  | some t => [[.str a.1, .str b.1, .int (t - b.2.2 + a.2.1)]]
def botRow (a b : Str × Int × Int) : Option Int → List (List V)
  | none => []
  | some t => [[.str b.1, .str a.1, .int (b.2.1 - a.2.2 - t)]]
def tieRows (wd : List Wd) (x : Bd) : List (List V) := topRow (offW x.one wd) (offW x.oth wd) x.top ++ botRow (offW x.one wd) (offW x.oth wd) x.bot
def bRows (m : Md) : List (List V) := m.own.flatMap (mRows m.last) ++ (hs m.wd).flatMap h2Rows ++ m.bd.flatMap (tieRows m.wd)
theorem drop_cons {α : Type} {l : List α} {i : Nat} {x : α} (e : l[i]? = some x) : l.drop i = x :: l.drop (i + 1) := by
  obtain ⟨h, rfl⟩ := List.getElem?_eq_some_iff.mp e
  exact List.drop_eq_getElem_cons h
theorem hs_take {l : List Wd} {i : Nat} {x : Wd} (e : l[i]? = some x) : hs (l.take (i + 1)) = hs (l.take i) ++ (x.la.map fun i => (x.en, x.bg, x.lo + i, x.hi + i)).toList := by
  unfold hs
  rw [List.take_add_one, e, List.filterMap_append]
  cases h : x.la <;> simp [h]
theorem hs_len (l : List Wd) : (hs l).length ≤ l.length := List.length_filterMap_le _ _
theorem fm_take {α β : Type} (f : α → List β) {l : List α} {i : Nat} {x : α} (e : l[i]? = some x) : (l.take (i + 1)).flatMap f = (l.take i).flatMap f ++ f x := by
  rw [List.take_add_one, e, List.flatMap_append]
  simp
theorem fm_len {α β : Type} (f : α → List β) (n : Nat) (h : ∀ x, (f x).length ≤ n) : ∀ l : List α, (l.flatMap f).length ≤ n * l.length
  | [] => by simp
  | a :: r => by
    rw [List.flatMap_cons, List.length_append, List.length_cons]
    have := fm_len f n h r
    have := h a
    rw [Nat.mul_add]
    omega
theorem tie_len (wd : List Wd) (x : Bd) : (tieRows wd x).length ≤ 2 := by
  unfold tieRows
  cases x.top <;> cases x.bot <;> simp [topRow, botRow]
/-- a list of tuples with these rows -/
def RowsAt (H : Hp) (D : Addr) (rs : List (List V)) : Prop := ∃ xs, H D = some (.lst xs) ∧ Rows H xs rs
theorem RowsAt.same {H H' : Hp} {D : Addr} {rs : List (List V)} (h : RowsAt H D rs) (s : Same H H') : RowsAt H' D rs := let ⟨xs, h1, h2⟩ := h; ⟨xs, s _ _ h1, h2.keep (Kt.of s)⟩
theorem kt_put {H : Hp} {D : Addr} {xs ys : List V} (h : H D = some (.lst xs)) : Kt H (upd H D (.lst ys)) := Kt.upd fun zs z => by
  rw [h] at z
  cases z
theorem rows_add {H : Hp} {D t : Addr} {xs : List V} {rs : List (List V)} {r : List V} (h : H D = some (.lst xs)) (R : Rows H xs rs) (nt : H t = none) : RowsAt (upd (upd H t (.tup r)) D (.lst (xs ++ [.ref t]))) D (rs ++ [r]) := by
  have s := same_upd (o := .tup r) nt
  have k := kt_put (ys := xs ++ [.ref t]) (s _ _ h)
  exact ⟨_, upd_same, ((R.keep (Kt.of s)).keep k).snoc (k _ _ upd_same)⟩
theorem Rows.append {H : Hp} : ∀ {xs ys : List V} {rs ss : List (List V)}, Rows H xs rs → Rows H ys ss → Rows H (xs ++ ys) (rs ++ ss)
  | _, _, _, _, .nil, h => h
  | _, _, _, _, .cons a t, h => .cons a (Rows.append t h)
section
variable {P : Program} {w : World} {K : PySem.W.Frag} {mg : Str → Option Value} {base : Heap}
/-! ### offset -/
def sp_offset (K : PySem.W.Frag) : Sp := fun vs H Q _ => ∃ (p : Addr) (m : Md) (z : Str), vs = [.ref p, .str z] ∧ WebAt (CW K) H p m ∧ z ∈ m.pts ∧ ∀ (t : Addr) (H' : Hp), Same H H' → H t = none → H' t = some (.tup (offRow (offW z m.wd))) → Q (.ref t) H'
theorem cal_offset (T : Tp K mg) : Cal P w K mg base 5 "offset" (sp_offset K) := by
  obtain ⟨fd, F⟩ := f_offset T
  refine cal_of F (g_offset T) (b_offset F) sc_offset (fun vs H Q E h => ?_) (fun cdv A outer s H vs Q E hr h => ?_)
  · obtain ⟨p, m, z, rfl, _⟩ := h
    rfl
  · obtain ⟨p, m, z, rfl, W, hz, q⟩ := h
    refine ⟨_, (pss_cons (ps_expr (C8.pe_c (cal_need_point T) hr (by decide) rfl (pa_cons (pv 0) (pa_cons (pv 1) pa_nil))))
      (pss_cons (ps_for PassesOwn.never rfl (pi_list (C8.pe_mt0 (met_Web_spans T) hr (by decide) (pv 0))) (pg_tup rfl (pgs_cons (pg_name (i := 2) sc_offset.nd rfl (.inl rfl)) (pgs_cons (pg_name (i := 3) sc_offset.nd rfl (.inl rfl)) (pgs_cons (pg_name (i := 4) sc_offset.nd rfl (.inl rfl)) (pgs_cons (pg_name (i := 5) sc_offset.nd rfl (.inl rfl)) (pgs_cons (pg_name (i := 6) sc_offset.nd rfl (.inl rfl)) pgs_nil))))))
        (pss_cons (ps_if (PW.pt (pw_and (pt_cmpR op_eq (pv 2) (pv 1) (nomark _)) (pw_and1 (pt_cmpR op_isN (pv 6) pe_non (nomark _))))) (pss_one (ps_ret (pe_tup (pa_cons (pv 3) (pa_cons (pv 4) (pa_cons (pv 5) pa_nil)))))) pss_nil)
        (pss_one (ps_if (pt_cmpR op_eq (pv 2) (pv 1) (nomark _)) (pss_one (ps_ret (pe_tup (pa_cons (pv 2) (pa_cons (pe_un un_neg (pv 6)) (pa_cons (pe_un un_neg (pv 6)) pa_nil)))))) pss_nil))))
      (pss_one (ps_ret (pe_tup (pa_cons (pv 1) (pa_cons pe_int (pa_cons pe_int pa_nil)))))))), ?_⟩
    refine ⟨_, rfl, _, rfl, p, m, z, rfl, W, hz, fun H1 s1 => ?_⟩
    have W1 := W.same s1
    obtain ⟨dx, _, _, _, _, _, g1, _⟩ := W1.ex
    refine ⟨_, rfl, p, dx, _, rfl, g1, wf_no (by decide +kernel), p, m, rfl, W1, fun ws l R nl => ?_⟩
    have s2 := s1.trans (same_upd (o := .lst ws) nl)
    have R2 := R.keep (Kt.of (same_upd (o := .lst ws) nl))
    refine ⟨l, rfl, ⟨_, .inl (.inl upd_same)⟩, for_list (K := K) (a := l) (xs := ws) (fun i σ H2 => H2 = upd H1 l (.lst ws) ∧ offW z m.wd = offW z (m.wd.drop i) ∧ ∃ y2 y3 y4 y5 y6 : Option V, σ = [some (.ref p), some (.str z), y2, y3, y4, y5, y6]) ⟨rfl, rfl, none, none, none, none, none, rfl⟩ (fun i σ H2 _ h => by rw [h.1]; exact .inl (.inl upd_same)) ?_ ?_⟩
    · rintro i x σ H2 hx ⟨rfl, ho, y2, y3, y4, y5, y6, rfl⟩
      obtain ⟨t, y, rfl, ey, ht⟩ := row_of R2 hx
      rw [drop_cons ey] at ho
      refine ⟨t, y.row, rfl, .inl (.inl ht), rfl, _, _, rfl, _, _, rfl, _, _, rfl, _, _, rfl, _, _, rfl, rfl, ?_⟩
      refine ⟨_, rfl, _, rfl, rfl, _, rfl, ?_⟩
      by_cases e : y.en = z
      · rw [decide_eq_true (show V.str y.en = V.str z by rw [e])]
        have ho2 : offW z m.wd = (match y.la with
          | none => (y.bg, y.lo, y.hi)
          | some i => (y.en, -i, -i)) := by
          rw [ho]
          show (if y.en = z then _ else _) = _
          rw [if_pos e]
        refine iteT ⟨_, rfl, rfl, _, rfl, ?_⟩
        rw [oV_non]
        cases el : y.la with
        | none =>
          rw [el] at ho2
          refine iteT ⟨_, rfl, _, rfl, _, rfl, (by show 3 ≤ sizeLine; decide), fun u nu => q u _ (s2.trans (same_upd nu)) (s2.free nu) ?_⟩
          rw [upd_same, ho2]
          rfl
        | some j =>
          rw [el] at ho2
          refine iteF ⟨_, rfl, _, rfl, rfl, _, rfl, ?_⟩
          rw [decide_eq_true (show V.str y.en = V.str z by rw [e])]
          refine iteT ⟨_, rfl, _, rfl, j, rfl, _, rfl, j, rfl, (by show 3 ≤ sizeLine; decide), fun u nu => q u _ (s2.trans (same_upd nu)) (s2.free nu) ?_⟩
          rw [upd_same, ho2]
          rfl
      · have ne : ¬ V.str y.en = V.str z := fun h => e (V.str.inj h)
        rw [decide_eq_false ne]
        refine iteF (iteF ⟨_, rfl, _, rfl, rfl, _, rfl, ?_⟩)
        rw [decide_eq_false ne]
        refine iteF ⟨rfl, ?_, _, _, _, _, _, rfl⟩
        rw [ho]
        show (if y.en = z then _ else _) = _
        rw [if_neg e]
    · rintro σ H2 ⟨rfl, ho, y2, y3, y4, y5, y6, rfl⟩
      have e0 : m.wd.drop ws.length = [] := List.drop_of_length_le (by rw [R.len, List.length_map]; exact Nat.le_refl _)
      rw [e0] at ho
      refine ⟨_, rfl, (by show 3 ≤ sizeLine; decide), fun u nu => q u _ (s2.trans (same_upd nu)) (s2.free nu) ?_⟩
      rw [upd_same, ho]
      rfl
/-! ### heard_spans -/
def sp_heard (K : PySem.W.Frag) : Sp := fun vs H Q _ => ∃ (p : Addr) (m : Md), vs = [.ref p] ∧ WebAt (CW K) H p m ∧ ∀ (D : Addr) (H' : Hp), Same H H' → H D = none → RowsAt H' D ((hs m.wd).map hRow) → Q (.ref D) H'
theorem cal_heard_spans (T : Tp K mg) : Cal P w K mg base 3 "heard_spans" (sp_heard K) := by
  obtain ⟨fd, F⟩ := f_heard_spans T
  refine cal_of F (g_heard_spans T) (b_heard_spans F) sc_heard_spans (fun vs H Q E h => ?_) (fun cdv A outer s H vs Q E hr h => ?_)
  · obtain ⟨p, m, rfl, _⟩ := h
    rfl
  · obtain ⟨p, m, rfl, W, q⟩ := h
    have hlen := W.len
    refine ⟨_, (pss_one (ps_ret (pe_lc (own := [("end", 1), ("begin", 2), ("low", 3), ("high", 4), ("late", 5)]) rfl sc_heard_spans.nd (pi_list (C8.pe_mt0 (met_Web_spans T) hr (by decide) (pv 0))) (blkOk_by (N := N_heard_spans) (sc := defScope s_heard_spans) (by decide +kernel)) (fun _ _ _ _ _ => (pg_tupK (K := K) (n := 5) rfl rfl (pgs_cons (pg_name (i := 1) sc_heard_spans.nd rfl (.inl rfl)) (pgs_cons (pg_name (i := 2) sc_heard_spans.nd rfl (.inl rfl)) (pgs_cons (pg_name (i := 3) sc_heard_spans.nd rfl (.inl rfl)) (pgs_cons (pg_name (i := 4) sc_heard_spans.nd rfl (.inl rfl)) (pgs_cons (pg_name (i := 5) sc_heard_spans.nd rfl (.inl rfl)) pgs_nil))))))) (fun _ _ _ _ _ => (pts_one (pt_cmpR op_notN (pv 5) pe_non (nomark _)))) (fun _ _ _ _ _ => (pe_tup (pa_cons (pv 1) (pa_cons (pv 2) (pa_cons (pe_op op_add (pv 3) (pv 5)) (pa_cons (pe_op op_add (pv 4) (pv 5)) pa_nil))))))))), ?_⟩
    obtain ⟨dx, _, _, _, _, _, g1, _⟩ := W.ex
    refine ⟨_, rfl, p, dx, _, rfl, g1, wf_no (by decide +kernel), p, m, rfl, W, fun ws l R nl => ?_⟩
    have s1 := same_upd (o := .lst ws) nl
    have R1 := R.keep (Kt.of s1)
    refine ⟨l, rfl, ⟨_, .inl (.inl upd_same)⟩, fun D nD => ?_⟩
    have nDH := s1.free nD
    refine lc_list (K := K) (a := l) (xs := ws) (fun i H2 => Same (upd H l (.lst ws)) H2 ∧ RowsAt H2 D ((hs (m.wd.take i)).map hRow)) ⟨same_upd nD, [], upd_same, .nil⟩ (fun i H2 _ ⟨s2, _⟩ => .inl (.inl (s2 _ _ upd_same))) ?_ ?_
    · rintro i x H2 hx ⟨s2, xs, d1, d2⟩
      obtain ⟨t, y, rfl, ey, ht⟩ := row_of R1 hx
      have hi : i < m.wd.length := (List.getElem?_eq_some_iff.mp ey).1
      refine ⟨t, y.row, rfl, .inl (.inl (s2 _ _ ht)), rfl, _, _, rfl, _, _, rfl, _, _, rfl, _, _, rfl, _, _, rfl, rfl, rfl, ?_⟩
      refine ⟨_, rfl, rfl, _, rfl, ?_⟩
      rw [oV_non]
      cases el : y.la with
      | none =>
        refine iteF ⟨s2, ?_⟩
        rw [hs_take ey, el]
        show RowsAt H2 D ((hs (m.wd.take i) ++ []).map hRow)
        rw [List.append_nil]
        exact ⟨xs, d1, d2⟩
      | some j =>
        refine iteT ⟨_, rfl, _, rfl, _, rfl, _, rfl, y.lo, j, rfl, rfl, _, rfl, _, rfl, y.hi, j, rfl, rfl, (by show 4 ≤ sizeLine; decide), fun u nu => ?_⟩
        have s3 := same_upd (o := .tup (hRow (y.en, y.bg, y.lo + j, y.hi + j))) nu
        refine ⟨xs, s3 _ _ d1, ?_, same_put (s2.trans s3) nD, ?_⟩
        · rw [d2.len, List.length_map]
          have h1 := hs_len (m.wd.take i)
          rw [List.length_take] at h1
          exact small1000 (by omega)
        · rw [hs_take ey, el, List.map_append]
          exact rows_add d1 d2 nu
    · rintro H2 ⟨s2, d⟩
      have e0 : m.wd.take ws.length = m.wd := List.take_of_length_le (by rw [R.len, List.length_map]; exact Nat.le_refl _)
      rw [e0] at d
      exact q D H2 (s1.trans s2) nDH d
end
end Tw

set_option maxHeartbeats 4000000
namespace Tw
open PySem PySem.Spec PyProof.Rows L2
section
variable {P : Program} {w : World} {K : PySem.W.Frag} {mg : Str → Option Value} {base : Heap}
/-! ### tie_bounds -/
def sp_tieb (K : PySem.W.Frag) : Sp := fun vs H Q _ => ∃ (p t : Addr) (m : Md) (x : Bd), vs = [.ref p, .ref t] ∧ WebAt (CW K) H p m ∧ H t = some (.tup x.row) ∧ x.one ∈ m.pts ∧ x.oth ∈ m.pts ∧ ∀ (D : Addr) (H' : Hp), Same H H' → H D = none → RowsAt H' D (tieRows m.wd x) → Q (.ref D) H'
theorem cal_tie_bounds (T : Tp K mg) : Cal P w K mg base 6 "tie_bounds" (sp_tieb K) := by
  obtain ⟨fd, F⟩ := f_tie_bounds T
  refine cal_of F (g_tie_bounds T) (b_tie_bounds F) sc_tie_bounds (fun vs H Q E h => ?_) (fun cdv A outer s H vs Q E hr h => ?_)
  · obtain ⟨p, t, m, x, rfl, _⟩ := h
    rfl
  · obtain ⟨p, t, m, x, rfl, W, ht, h1, h2, q⟩ := h
    refine ⟨_, (pss_cons (ps_asg (pv 1) (pg_tup rfl (pgs_cons (pg_name (i := 2) sc_tie_bounds.nd rfl (.inl rfl)) (pgs_cons (pg_name (i := 3) sc_tie_bounds.nd rfl (.inl rfl)) (pgs_cons (pg_name (i := 4) sc_tie_bounds.nd rfl (.inl rfl)) (pgs_cons (pg_name (i := 5) sc_tie_bounds.nd rfl (.inl rfl)) pgs_nil))))))
      (pss_cons (ps_asg (C8.pe_c (cal_offset T) hr (by decide) rfl (pa_cons (pv 0) (pa_cons (pv 2) pa_nil))) (pg_tup rfl (pgs_cons (pg_name (i := 6) sc_tie_bounds.nd rfl (.inl rfl)) (pgs_cons (pg_name (i := 7) sc_tie_bounds.nd rfl (.inl rfl)) (pgs_cons (pg_name (i := 8) sc_tie_bounds.nd rfl (.inl rfl)) pgs_nil)))))
      (pss_cons (ps_asg (C8.pe_c (cal_offset T) hr (by decide) rfl (pa_cons (pv 0) (pa_cons (pv 3) pa_nil))) (pg_tup rfl (pgs_cons (pg_name (i := 9) sc_tie_bounds.nd rfl (.inl rfl)) (pgs_cons (pg_name (i := 10) sc_tie_bounds.nd rfl (.inl rfl)) (pgs_cons (pg_name (i := 11) sc_tie_bounds.nd rfl (.inl rfl)) pgs_nil)))))
      (pss_cons (ps_set (i := 12) sc_tie_bounds.nd rfl (.inl rfl) (pe_lst pa_nil))
      (C8.pss_cut (ps_if (pt_cmpR op_notN (pv 5) pe_non (nomark _)) (pss_one (ps_expr (pe_bm PySem.F.plainAttrs_list PySem.F.slot_list_append PySem.F.type_list_append mt_append (pv 12) (pa_cons (pe_tup (pa_cons (pv 6) (pa_cons (pv 9) (pa_cons (pe_op op_add (pe_op op_sub (pv 5) (pv 11)) (pv 7)) pa_nil)))) pa_nil)))) pss_nil)
      (pss_cons (ps_if (pt_cmpR op_notN (pv 4) pe_non (nomark _)) (pss_one (ps_expr (pe_bm PySem.F.plainAttrs_list PySem.F.slot_list_append PySem.F.type_list_append mt_append (pv 12) (pa_cons (pe_tup (pa_cons (pv 9) (pa_cons (pv 6) (pa_cons (pe_op op_sub (pe_op op_sub (pv 10) (pv 8)) (pv 4)) pa_nil)))) pa_nil)))) pss_nil)
      (pss_one (ps_ret (pv 12))))))))), ?_⟩
    refine ⟨_, rfl, t, x.row, rfl, .inl (.inl ht), rfl, _, _, rfl, _, _, rfl, _, _, rfl, _, _, rfl, rfl, ?_⟩
    refine ⟨_, rfl, _, rfl, p, m, x.one, rfl, W, h1, fun u H1 s1 nu hu => ⟨u, _, rfl, .inl (.inl hu), rfl, _, _, rfl, _, _, rfl, _, _, rfl, rfl, ?_⟩⟩
    refine ⟨_, rfl, _, rfl, p, m, x.oth, rfl, W.same s1, h2, fun v H2 s2 nv hv => ⟨v, _, rfl, .inl (.inl hv), rfl, _, _, rfl, _, _, rfl, _, _, rfl, rfl, ?_⟩⟩
    refine ⟨Nat.zero_le _, fun D nD => ?_⟩
    have sA := s1.trans s2
    have nDH := sA.free nD
    have s3 := sA.trans (same_upd (o := .lst []) nD)
    refine ⟨fun σ' H' => σ' = [some (.ref p), some (.ref t), some (.str x.one), some (.str x.oth), some (oV x.bot), some (oV x.top), some (.str (offW x.one m.wd).1), some (.int (offW x.one m.wd).2.1), some (.int (offW x.one m.wd).2.2), some (.str (offW x.oth m.wd).1), some (.int (offW x.oth m.wd).2.1), some (.int (offW x.oth m.wd).2.2), some (.ref D)] ∧
      Same H H' ∧ RowsAt H' D (topRow (offW x.one m.wd) (offW x.oth m.wd) x.top), ?_, ?_⟩
    · refine ⟨_, rfl, rfl, _, rfl, ?_⟩
      rw [oV_non]
      cases ex : x.top with
      | none => exact iteF ⟨rfl, s3, [], upd_same, .nil⟩
      | some i =>
        refine iteT ⟨_, rfl, .inl ⟨rfl, _, .inl (.inl upd_same)⟩, _, rfl, _, rfl, _, rfl, _, rfl, i, _, rfl, rfl, _, rfl, _, _, rfl, rfl, (by show 3 ≤ sizeLine; decide), fun r nr => ?_⟩
        have s4 := same_upd (o := .tup [.str (offW x.one m.wd).1, .str (offW x.oth m.wd).1, .int (i - (offW x.oth m.wd).2.2 + (offW x.one m.wd).2.1)]) nr
        exact ⟨D, _, _, rfl, rfl, s4 _ _ upd_same, by decide, rfl, same_put (s3.trans s4) nDH, rows_add (rs := []) upd_same .nil nr⟩
    · rintro σ' H' ⟨rfl, s4, xs, d1, d2⟩
      have hl : xs.length ≤ 1 := by
        rw [d2.len]
        cases x.top <;> simp [topRow]
      refine ⟨_, rfl, rfl, _, rfl, ?_⟩
      rw [oV_non]
      cases ex : x.bot with
      | none =>
        refine iteF ⟨_, rfl, q D H' s4 nDH ⟨xs, d1, ?_⟩⟩
        unfold tieRows
        rw [ex]
        show Rows H' xs (_ ++ [])
        rw [List.append_nil]
        exact d2
      | some i =>
        refine iteT ⟨_, rfl, .inl ⟨rfl, _, .inl (.inl d1)⟩, _, rfl, _, rfl, _, rfl, _, rfl, _, _, rfl, rfl, _, rfl, _, i, rfl, rfl, (by show 3 ≤ sizeLine; decide), fun r nr => ?_⟩
        have s5 := same_upd (o := .tup [.str (offW x.oth m.wd).1, .str (offW x.one m.wd).1, .int ((offW x.oth m.wd).2.1 - (offW x.one m.wd).2.2 - i)]) nr
        refine ⟨D, xs, _, rfl, rfl, s5 _ _ d1, small1000 (by omega), _, rfl, q D _ (same_put (s4.trans s5) nDH) nDH ?_⟩
        unfold tieRows
        rw [ex]
        exact rows_add d1 d2 nr
/-! ### bounds -/
def sp_bounds (K : PySem.W.Frag) : Sp := fun vs H Q _ => ∃ (p : Addr) (m : Md), vs = [.ref p] ∧ WebAt (CW K) H p m ∧ (∀ x ∈ m.bd, x.one ∈ m.pts ∧ x.oth ∈ m.pts) ∧ ∀ (D : Addr) (H' : Hp), Same H H' → H D = none → RowsAt H' D (bRows m) → Q (.ref D) H'
theorem cal_bounds (T : Tp K mg) : Cal P w K mg base 7 "bounds" (sp_bounds K) := by
  obtain ⟨fd, F⟩ := f_bounds T
  refine cal_of F (g_bounds T) (b_bounds F) sc_bounds (fun vs H Q E h => ?_) (fun cdv A outer s H vs Q E hr h => ?_)
  · obtain ⟨p, m, rfl, _⟩ := h
    rfl
  · obtain ⟨p, m, rfl, W, hpt, q⟩ := h
    have hlen := W.len
    refine ⟨_, (pss_cons (ps_set (i := 1) sc_bounds.nd rfl (.inl rfl) (pe_lst pa_nil))
      (pss_cons (ps_for PassesOwn.never rfl (pi_list (C8.pe_mt0 (met_Web_moments T) hr (by decide) (pv 0))) (pg_name (i := 2) sc_bounds.nd rfl (.inl rfl))
        (pss_cons (ps_expr (pe_bm PySem.F.plainAttrs_list PySem.F.slot_list_append PySem.F.type_list_append mt_append (pv 1) (pa_cons (pe_tup (pa_cons (C8.pe_gc (by rfl) (c_START T)) (pa_cons (pv 2) (pa_cons (pe_fld (pv 0) rfl) pa_nil)))) pa_nil)))
        (pss_one (ps_expr (pe_bm PySem.F.plainAttrs_list PySem.F.slot_list_append PySem.F.type_list_append mt_append (pv 1) (pa_cons (pe_tup (pa_cons (pv 2) (pa_cons (C8.pe_gc (by rfl) (c_START T)) (pa_cons pe_int pa_nil)))) pa_nil))))))
      (pss_cons (ps_for PassesOwn.never rfl (pi_list (C8.pe_c (cal_heard_spans T) hr (by decide) rfl (pa_cons (pv 0) pa_nil))) (pg_tup rfl (pgs_cons (pg_name (i := 3) sc_bounds.nd rfl (.inl rfl)) (pgs_cons (pg_name (i := 4) sc_bounds.nd rfl (.inl rfl)) (pgs_cons (pg_name (i := 5) sc_bounds.nd rfl (.inl rfl)) (pgs_cons (pg_name (i := 6) sc_bounds.nd rfl (.inl rfl)) pgs_nil)))))
        (pss_cons (ps_expr (pe_bm PySem.F.plainAttrs_list PySem.F.slot_list_append PySem.F.type_list_append mt_append (pv 1) (pa_cons (pe_tup (pa_cons (pv 4) (pa_cons (pv 3) (pa_cons (pv 6) pa_nil)))) pa_nil)))
        (pss_one (ps_expr (pe_bm PySem.F.plainAttrs_list PySem.F.slot_list_append PySem.F.type_list_append mt_append (pv 1) (pa_cons (pe_tup (pa_cons (pv 3) (pa_cons (pv 4) (pa_cons (pe_un un_neg (pv 5)) pa_nil)))) pa_nil))))))
      (pss_cons (ps_for PassesOwn.never rfl (pi_list (C8.pe_mt0 (met_Web_ties T) hr (by decide) (pv 0))) (pg_name (i := 7) sc_bounds.nd rfl (.inl rfl))
        (pss_one (ps_expr (pe_bm PySem.F.plainAttrs_list PySem.F.slot_list_extend PySem.F.type_list_extend mt_extend (pv 1) (pa_cons (C8.pe_c (cal_tie_bounds T) hr (by decide) rfl (pa_cons (pv 0) (pa_cons (pv 7) pa_nil))) pa_nil)))))
      (pss_one (ps_ret (pv 1))))))), ?_⟩
    refine ⟨Nat.zero_le _, fun D nD => ?_⟩
    have s0 := same_upd (o := .lst []) nD
    have W0 := W.same s0
    obtain ⟨dx, _, _, _, _, _, g0, _⟩ := W0.ex
    -- the moments
    refine ⟨_, rfl, p, dx, _, rfl, g0, wf_no (by decide +kernel), p, m, rfl, W0, fun k nk => ?_⟩
    have s1 := same_upd (o := .lst (m.own.map V.str)) nk
    have nDk : k ≠ D := (ne_of_none (upd_same (H := H) (a := D) (o := .lst [])) nk).symm
    refine ⟨k, rfl, ⟨_, .inl (.inl upd_same)⟩, for_list (K := K) (a := k) (xs := m.own.map V.str) (fun i σ H2 => ∃ y : Option V, σ = [some (.ref p), some (.ref D), y, none, none, none, none, none] ∧ Same H H2 ∧ H2 k = some (.lst (m.own.map V.str)) ∧ RowsAt H2 D ((m.own.take i).flatMap (mRows m.last)))
      ⟨none, rfl, s0.trans s1, upd_same, [], s1 _ _ upd_same, .nil⟩ (fun i σ H2 _ ⟨_, _, _, h, _⟩ => .inl (.inl h)) ?_ ?_⟩
    · rintro i v σ H2 hv ⟨y, rfl, s2, hk2, xs, d1, d2⟩
      rw [List.getElem?_map] at hv
      cases ez : m.own[i]? with
      | none =>
        rw [ez] at hv
        cases hv
      | some z =>
        rw [ez] at hv
        cases hv
        have hi : i < m.own.length := (List.getElem?_eq_some_iff.mp ez).1
        have hxl : xs.length ≤ 2 * m.own.length := by
          rw [d2.len]
          refine Nat.le_trans (fm_len _ 2 (fun _ => Nat.le_refl _) _) ?_
          rw [List.length_take]
          omega
        have W2 := W.same s2
        obtain ⟨dx2, _, _, _, _, _, g2, _⟩ := W2.ex
        refine ⟨_, rfl, .inl ⟨rfl, _, .inl (.inl d1)⟩, _, rfl, _, rfl, p, CW K, dx2, _, _, rfl, g2, cl_Web T, na_by T, wf_by, (by show 3 ≤ sizeLine; decide), fun t nt => ?_⟩
        have s3 := same_upd (o := .tup [.str "start", .str z, .int m.last]) nt
        refine ⟨D, xs, _, rfl, rfl, s3 _ _ d1, small1000 (by omega), ?_⟩
        obtain ⟨xs2, e1, e2⟩ := rows_add (r := [.str "start", .str z, .int m.last]) d1 d2 nt
        have s4 := same_put (o := .lst (xs ++ [.ref t])) (s2.trans s3) nD
        have hk4 : (upd (upd H2 t (.tup [.str "start", .str z, .int m.last])) D (.lst (xs ++ [.ref t]))) k = some (.lst (m.own.map V.str)) := by
          rw [upd_ne nDk]
          exact s3 _ _ hk2
        have hl2 : xs2.length ≤ 2 * m.own.length + 1 := by
          rw [e2.len, List.length_append, ← d2.len]
          show xs.length + 1 ≤ _
          omega
        refine ⟨_, rfl, .inl ⟨rfl, _, .inl (.inl e1)⟩, _, rfl, (by show 3 ≤ sizeLine; decide), fun u nu => ?_⟩
        have s5 := same_upd (o := .tup [.str z, .str "start", .int 0]) nu
        refine ⟨D, xs2, _, rfl, rfl, s5 _ _ e1, small1000 (by omega), _, rfl, same_put (s4.trans s5) nD, by rw [upd_ne nDk]; exact s5 _ _ hk4, ?_⟩
        rw [fm_take _ ez]
        have := rows_add (r := [.str z, .str "start", .int 0]) e1 e2 nu
        rw [List.append_assoc] at this
        exact this
    · rintro σ H2 ⟨y, rfl, s2, hk2, d⟩
      have e0 : m.own.take (m.own.map V.str).length = m.own := List.take_of_length_le (by rw [List.length_map]; exact Nat.le_refl _)
      rw [e0] at d
      have l1 : (m.own.flatMap (mRows m.last)).length ≤ 20 := by
        have := fm_len (mRows m.last) 2 (fun _ => Nat.le_refl _) m.own
        omega
      -- the spans that are heard
      refine ⟨_, rfl, p, m, rfl, W.same s2, fun g H3 s3 ng R3 => ?_⟩
      obtain ⟨gs, hg, rg⟩ := R3
      obtain ⟨xs0, d1', d2'⟩ := d
      have nDg : g ≠ D := (ne_of_none d1' ng).symm
      have hsl := hs_len m.wd
      refine ⟨g, rfl, ⟨_, .inl (.inl hg)⟩, for_list (K := K) (a := g) (xs := gs) (fun i σ H4 => ∃ y3 y4 y5 y6 : Option V, σ = [some (.ref p), some (.ref D), y, y3, y4, y5, y6, none] ∧ Same H H4 ∧ H4 g = some (.lst gs) ∧ Rows H4 gs ((hs m.wd).map hRow) ∧ RowsAt H4 D (m.own.flatMap (mRows m.last) ++ ((hs m.wd).take i).flatMap h2Rows))
        ⟨none, none, none, none, rfl, s2.trans s3, hg, rg, ?_⟩ (fun i σ H4 _ ⟨_, _, _, _, _, _, h, _⟩ => .inl (.inl h)) ?_ ?_⟩
      · show RowsAt H3 D (_ ++ [])
        rw [List.append_nil]
        exact (RowsAt.same ⟨xs0, d1', d2'⟩ s3)
      · rintro i v σ H4 hv ⟨y3, y4, y5, y6, rfl, s4, hg4, rg4, xs, d1, d2⟩
        obtain ⟨t, x, rfl, ey, ht⟩ := row_of rg4 hv
        have hi : i < (hs m.wd).length := (List.getElem?_eq_some_iff.mp ey).1
        have hxl : xs.length ≤ 28 := by
          rw [d2.len, List.length_append]
          have := fm_len h2Rows 2 (fun _ => Nat.le_refl _) ((hs m.wd).take i)
          rw [List.length_take] at this
          omega
        refine ⟨t, hRow x, rfl, .inl (.inl ht), rfl, _, _, rfl, _, _, rfl, _, _, rfl, _, _, rfl, rfl, ?_⟩
        refine ⟨_, rfl, .inl ⟨rfl, _, .inl (.inl d1)⟩, _, rfl, _, rfl, _, rfl, (by show 3 ≤ sizeLine; decide), fun u nu => ?_⟩
        have s5 := same_upd (o := .tup [.str x.2.1, .str x.1, .int x.2.2.2]) nu
        refine ⟨D, xs, _, rfl, rfl, s5 _ _ d1, small1000 (by omega), ?_⟩
        obtain ⟨xs2, e1, e2⟩ := rows_add (r := [.str x.2.1, .str x.1, .int x.2.2.2]) d1 d2 nu
        have s6 := same_put (o := .lst (xs ++ [.ref u])) (s4.trans s5) nD
        have hg6 : (upd (upd H4 u (.tup [.str x.2.1, .str x.1, .int x.2.2.2])) D (.lst (xs ++ [.ref u]))) g = some (.lst gs) := by
          rw [upd_ne nDg]
          exact s5 _ _ hg4
        have k6 : Kt H4 (upd (upd H4 u (.tup [.str x.2.1, .str x.1, .int x.2.2.2])) D (.lst (xs ++ [.ref u]))) := (Kt.of s5).trans (kt_put (s5 _ _ d1))
        have hl2 : xs2.length ≤ 29 := by
          rw [e2.len, List.length_append, ← d2.len]
          show xs.length + 1 ≤ _
          omega
        refine ⟨_, rfl, .inl ⟨rfl, _, .inl (.inl e1)⟩, _, rfl, _, rfl, _, rfl, _, rfl, (by show 3 ≤ sizeLine; decide), fun r nr => ?_⟩
        have s7 := same_upd (o := .tup [.str x.1, .str x.2.1, .int (-x.2.2.1)]) nr
        refine ⟨D, xs2, _, rfl, rfl, s7 _ _ e1, small1000 (by omega), _, _, _, _, rfl, same_put (s6.trans s7) nD, by rw [upd_ne nDg]; exact s7 _ _ hg6, rg4.keep ((k6.trans (Kt.of s7)).trans (kt_put (s7 _ _ e1))), ?_⟩
        rw [fm_take _ ey]
        have := rows_add (r := [.str x.1, .str x.2.1, .int (-x.2.2.1)]) e1 e2 nr
        rw [List.append_assoc, List.append_assoc] at this
        exact this
      · rintro σ H4 ⟨y3, y4, y5, y6, rfl, s4, hg4, rg4, d⟩
        have e0 : (hs m.wd).take gs.length = hs m.wd := List.take_of_length_le (by rw [rg.len, List.length_map]; exact Nat.le_refl _)
        rw [e0] at d
        have l2 : (m.own.flatMap (mRows m.last) ++ (hs m.wd).flatMap h2Rows).length ≤ 28 := by
          have := fm_len h2Rows 2 (fun _ => Nat.le_refl _) (hs m.wd)
          rw [List.length_append]
          omega
        -- the ties
        have W4 := W.same s4
        obtain ⟨dx4, _, _, _, _, _, g4, _⟩ := W4.ex
        obtain ⟨xs0, d1', d2'⟩ := d
        refine ⟨_, rfl, p, dx4, _, rfl, g4, wf_no (by decide +kernel), p, m, rfl, W4, fun bs b R nb => ?_⟩
        have s5 := same_upd (o := .lst bs) nb
        have nDb : b ≠ D := (ne_of_none d1' nb).symm
        refine ⟨b, rfl, ⟨_, .inl (.inl upd_same)⟩, for_list (K := K) (a := b) (xs := bs) (fun i σ H6 => ∃ y7 : Option V, σ = [some (.ref p), some (.ref D), y, y3, y4, y5, y6, y7] ∧ Same H H6 ∧ H6 b = some (.lst bs) ∧ Rows H6 bs (m.bd.map Bd.row) ∧ RowsAt H6 D (m.own.flatMap (mRows m.last) ++ (hs m.wd).flatMap h2Rows ++ (m.bd.take i).flatMap (tieRows m.wd)))
          ⟨none, rfl, s4.trans s5, upd_same, R.keep (Kt.of s5), ?_⟩ (fun i σ H6 _ ⟨_, _, _, h, _⟩ => .inl (.inl h)) ?_ ?_⟩
        · show RowsAt _ D (_ ++ [])
          rw [List.append_nil]
          exact (RowsAt.same ⟨xs0, d1', d2'⟩ s5)
        · rintro i v σ H6 hv ⟨y7, rfl, s6, hb6, rb6, xs, d1, d2⟩
          obtain ⟨t, x, rfl, ey, ht⟩ := row_of rb6 hv
          have hi : i < m.bd.length := (List.getElem?_eq_some_iff.mp ey).1
          have hx := hpt x (List.mem_of_getElem? ey)
          have hxl : xs.length ≤ 108 := by
            rw [d2.len, List.length_append]
            have := fm_len (tieRows m.wd) 2 (tie_len m.wd) (m.bd.take i)
            rw [List.length_take] at this
            omega
          refine ⟨_, rfl, .inl ⟨rfl, _, .inl (.inl d1)⟩, _, rfl, _, rfl, p, t, m, x, rfl, W.same s6, ht, hx.1, hx.2, fun g H7 s7 ng R7 => ?_⟩
          obtain ⟨gs, e1, e2⟩ := R7
          have hgl : gs.length ≤ 2 := by
            rw [e2.len]
            exact tie_len _ _
          have dD := s7 _ _ d1
          refine ⟨D, g, xs, gs, rfl, rfl, dD, e1, Nat.le_of_lt (small1000 (by omega)), _, rfl, same_put (s6.trans s7) nD, by rw [upd_ne nDb]; exact s7 _ _ hb6, rb6.keep ((Kt.of s7).trans (kt_put dD)), ?_⟩
          rw [fm_take _ ey, ← List.append_assoc]
          exact ⟨_, upd_same, Rows.append ((d2.keep (Kt.of s7)).keep (kt_put dD)) (e2.keep (kt_put dD))⟩
        · rintro σ H6 ⟨y7, rfl, s6, hb6, rb6, d⟩
          have e0 : m.bd.take bs.length = m.bd := List.take_of_length_le (by rw [R.len, List.length_map]; exact Nat.le_refl _)
          rw [e0] at d
          exact ⟨_, rfl, q D H6 s6 nD d⟩
end
end Tw

set_option maxHeartbeats 4000000
namespace Tw
open PySem PySem.Spec PyProof.Rows L2
section
variable {P : Program} {w : World} {K : PySem.W.Frag} {mg : Str → Option Value} {base : Heap}
/-! ### _law_offset -/
def sp_loffset : Sp := fun vs H Q _ => ∃ (d : Addr) (m : Md) (z : Str), vs = [.ref d, .str z] ∧ MdAt H d m ∧ ∀ (t : Addr) (H' : Hp), Same H H' → H t = none → H' t = some (.tup (offRow (offW z m.wd))) → Q (.ref t) H'
theorem cal__law_offset (T : Tp K mg) : Cal P w K mg base 2 "_law_offset" sp_loffset := by
  obtain ⟨fd, F⟩ := f__law_offset T
  refine cal_of F (g__law_offset T) (b__law_offset F) sc__law_offset (fun vs H Q E h => ?_) (fun cdv A outer s H vs Q E hr h => ?_)
  · obtain ⟨d, m, z, rfl, _⟩ := h
    rfl
  · obtain ⟨d, m, z, rfl, M, q⟩ := h
    have hu := hu_of hr
    obtain ⟨o, u, b, ws, bs, h1, h2, h3, h4, h5, h6, h7⟩ := M.ex
    refine ⟨_, (pss_cons (ps_for PassesOwn.never rfl (pi_list (pe_dget hu (pv 0) pe_str (fun _ _ => rfl))) (pg_tup rfl (pgs_cons (pg_name (i := 2) sc__law_offset.nd rfl (.inl rfl)) (pgs_cons (pg_name (i := 3) sc__law_offset.nd rfl (.inl rfl)) (pgs_cons (pg_name (i := 4) sc__law_offset.nd rfl (.inl rfl)) (pgs_cons (pg_name (i := 5) sc__law_offset.nd rfl (.inl rfl)) (pgs_cons (pg_name (i := 6) sc__law_offset.nd rfl (.inl rfl)) pgs_nil))))))
        (pss_cons (ps_if (PW.pt (pw_and (pt_cmpR op_eq (pv 2) (pv 1) (nomark _)) (pw_and1 (pt_cmpR op_isN (pv 6) pe_non (nomark _))))) (pss_one (ps_ret (pe_tup (pa_cons (pv 3) (pa_cons (pv 4) (pa_cons (pv 5) pa_nil)))))) pss_nil)
        (pss_one (ps_if (pt_cmpR op_eq (pv 2) (pv 1) (nomark _)) (pss_one (ps_ret (pe_tup (pa_cons (pv 2) (pa_cons (pe_un un_neg (pv 6)) (pa_cons (pe_un un_neg (pv 6)) pa_nil)))))) pss_nil))))
      (pss_one (ps_ret (pe_tup (pa_cons (pv 1) (pa_cons pe_int (pa_cons pe_int pa_nil))))))), ?_⟩
    refine ⟨_, rfl, d, _, rfl, mk_wd h1, u, rfl, ⟨_, .inl (.inl h3)⟩, for_list (K := K) (a := u) (xs := ws) (fun i σ H2 => H2 = H ∧ offW z m.wd = offW z (m.wd.drop i) ∧ ∃ y2 y3 y4 y5 y6 : Option V, σ = [some (.ref d), some (.str z), y2, y3, y4, y5, y6]) ⟨rfl, rfl, none, none, none, none, none, rfl⟩ (fun i σ H2 _ h => by rw [h.1]; exact .inl (.inl h3)) ?_ ?_⟩
    · rintro i x σ H2 hx ⟨rfl, ho, y2, y3, y4, y5, y6, rfl⟩
      obtain ⟨t, y, rfl, ey, ht⟩ := row_of h4 hx
      rw [drop_cons ey] at ho
      refine ⟨t, y.row, rfl, .inl (.inl ht), rfl, _, _, rfl, _, _, rfl, _, _, rfl, _, _, rfl, _, _, rfl, rfl, ?_⟩
      refine ⟨_, rfl, _, rfl, rfl, _, rfl, ?_⟩
      by_cases e : y.en = z
      · rw [decide_eq_true (show V.str y.en = V.str z by rw [e])]
        have ho2 : offW z m.wd = (match y.la with
          | none => (y.bg, y.lo, y.hi)
          | some i => (y.en, -i, -i)) := by
          rw [ho]
          show (if y.en = z then _ else _) = _
          rw [if_pos e]
          all_goals (cases y.la <;> rfl)
        refine iteT ⟨_, rfl, rfl, _, rfl, ?_⟩
        rw [oV_non]
        cases el : y.la with
        | none =>
          rw [el] at ho2
          refine iteT ⟨_, rfl, _, rfl, _, rfl, (by show 3 ≤ sizeLine; decide), fun u nu => q u _ (same_upd nu) nu ?_⟩
          rw [upd_same, ho2]
          rfl
        | some j =>
          rw [el] at ho2
          refine iteF ⟨_, rfl, _, rfl, rfl, _, rfl, ?_⟩
          rw [decide_eq_true (show V.str y.en = V.str z by rw [e])]
          refine iteT ⟨_, rfl, _, rfl, j, rfl, _, rfl, j, rfl, (by show 3 ≤ sizeLine; decide), fun u nu => q u _ (same_upd nu) nu ?_⟩
          rw [upd_same, ho2]
          rfl
      · have ne : ¬ V.str y.en = V.str z := fun h => e (V.str.inj h)
        rw [decide_eq_false ne]
        refine iteF (iteF ⟨_, rfl, _, rfl, rfl, _, rfl, ?_⟩)
        rw [decide_eq_false ne]
        refine iteF ⟨rfl, ?_, _, _, _, _, _, rfl⟩
        rw [ho]
        show (if y.en = z then _ else _) = _
        rw [if_neg e]
    · rintro σ H2 ⟨rfl, ho, y2, y3, y4, y5, y6, rfl⟩
      have e0 : m.wd.drop ws.length = [] := List.drop_of_length_le (by rw [h4.len, List.length_map]; exact Nat.le_refl _)
      rw [e0] at ho
      refine ⟨_, rfl, (by show 3 ≤ sizeLine; decide), fun u nu => q u _ (same_upd nu) nu ?_⟩
      rw [upd_same, ho]
      rfl
/-! ### _law_heard -/
def sp_lheard : Sp := fun vs H Q _ => ∃ (d : Addr) (m : Md), vs = [.ref d] ∧ MdAt H d m ∧ m.wd.length ≤ 100 ∧ ∀ (D : Addr) (H' : Hp), Same H H' → H D = none → RowsAt H' D ((hs m.wd).map hRow) → Q (.ref D) H'
theorem cal__law_heard (T : Tp K mg) : Cal P w K mg base 2 "_law_heard" sp_lheard := by
  obtain ⟨fd, F⟩ := f__law_heard T
  refine cal_of F (g__law_heard T) (b__law_heard F) sc__law_heard (fun vs H Q E h => ?_) (fun cdv A outer s H vs Q E hr h => ?_)
  · obtain ⟨d, m, rfl, _⟩ := h
    rfl
  · obtain ⟨d, m, rfl, M, hlen, q⟩ := h
    have hu := hu_of hr
    obtain ⟨o, u, b, ws, bs, h1, h2, h3, h4, h5, h6, h7⟩ := M.ex
    refine ⟨_, (pss_cons (ps_set (i := 1) sc__law_heard.nd rfl (.inl rfl) (pe_lst pa_nil))
      (pss_cons (ps_for PassesOwn.never rfl (pi_list (pe_dget hu (pv 0) pe_str (fun _ _ => rfl))) (pg_tup rfl (pgs_cons (pg_name (i := 2) sc__law_heard.nd rfl (.inl rfl)) (pgs_cons (pg_name (i := 3) sc__law_heard.nd rfl (.inl rfl)) (pgs_cons (pg_name (i := 4) sc__law_heard.nd rfl (.inl rfl)) (pgs_cons (pg_name (i := 5) sc__law_heard.nd rfl (.inl rfl)) (pgs_cons (pg_name (i := 6) sc__law_heard.nd rfl (.inl rfl)) pgs_nil))))))
        (pss_one (ps_if (pt_cmpR op_notN (pv 6) pe_non (nomark _)) (pss_one (ps_expr (pe_bm PySem.F.plainAttrs_list PySem.F.slot_list_append PySem.F.type_list_append mt_append (pv 1) (pa_cons (pe_tup (pa_cons (pv 2) (pa_cons (pv 3) (pa_cons (pe_op op_add (pv 4) (pv 6)) (pa_cons (pe_op op_add (pv 5) (pv 6)) pa_nil))))) pa_nil)))) pss_nil)))
      (pss_one (ps_ret (pv 1))))), ?_⟩
    refine ⟨Nat.zero_le _, fun D nD => ?_⟩
    have s1 := same_upd (o := .lst []) nD
    refine ⟨_, rfl, d, _, rfl, mk_wd (s1 _ _ h1), u, rfl, ⟨_, .inl (.inl (s1 _ _ h3))⟩, for_list (K := K) (a := u) (xs := ws) (fun i σ H2 => ∃ y2 y3 y4 y5 y6 : Option V, σ = [some (.ref d), some (.ref D), y2, y3, y4, y5, y6] ∧ Same H H2 ∧ RowsAt H2 D ((hs (m.wd.take i)).map hRow))
      ⟨none, none, none, none, none, rfl, s1, [], upd_same, .nil⟩ (fun i σ H2 _ ⟨_, _, _, _, _, _, s2, _⟩ => .inl (.inl (s2 _ _ h3))) ?_ ?_⟩
    · rintro i x σ H2 hx ⟨y2, y3, y4, y5, y6, rfl, s2, xs, d1, d2⟩
      obtain ⟨t, y, rfl, ey, ht⟩ := row_of h4 hx
      have hi : i < m.wd.length := (List.getElem?_eq_some_iff.mp ey).1
      refine ⟨t, y.row, rfl, .inl (.inl (s2 _ _ ht)), rfl, _, _, rfl, _, _, rfl, _, _, rfl, _, _, rfl, _, _, rfl, rfl, ?_⟩
      refine ⟨_, rfl, rfl, _, rfl, ?_⟩
      rw [oV_non]
      cases el : y.la with
      | none =>
        refine iteF ⟨_, _, _, _, _, rfl, s2, ?_⟩
        rw [hs_take ey, el]
        show RowsAt H2 D ((hs (m.wd.take i) ++ []).map hRow)
        rw [List.append_nil]
        exact ⟨xs, d1, d2⟩
      | some j =>
        refine iteT ⟨_, rfl, .inl ⟨rfl, _, .inl (.inl d1)⟩, _, rfl, _, rfl, _, rfl, _, rfl, y.lo, j, rfl, rfl, _, rfl, _, rfl, y.hi, j, rfl, rfl, (by show 4 ≤ sizeLine; decide), fun v nv => ?_⟩
        have s3 := same_upd (o := .tup (hRow (y.en, y.bg, y.lo + j, y.hi + j))) nv
        refine ⟨D, xs, _, rfl, rfl, s3 _ _ d1, ?_, _, _, _, _, _, rfl, same_put (s2.trans s3) nD, ?_⟩
        · rw [d2.len, List.length_map]
          have h1 := hs_len (m.wd.take i)
          rw [List.length_take] at h1
          exact small1000 (by omega)
        · rw [hs_take ey, el, List.map_append]
          exact rows_add d1 d2 nv
    · rintro σ H2 ⟨y2, y3, y4, y5, y6, rfl, s2, dd⟩
      have e0 : m.wd.take ws.length = m.wd := List.take_of_length_le (by rw [h4.len, List.length_map]; exact Nat.le_refl _)
      rw [e0] at dd
      exact ⟨_, rfl, q D H2 s2 nD dd⟩
end
end Tw

set_option maxHeartbeats 4000000
namespace Tw
open PySem PySem.Spec PyProof.Rows L2
section
variable {P : Program} {w : World} {K : PySem.W.Frag} {mg : Str → Option Value} {base : Heap}
/-! ### _law_bounds -/
/-- two lists put together in a new one -/
theorem rows_cat {H : Hp} {D E r : Addr} {xs ys : List V} {rs ss : List (List V)} (h : Rows H xs rs) (h2 : Rows H ys ss) (nr : H r = none) : RowsAt (upd H r (.lst (xs ++ ys))) r (rs ++ ss) := by
  have s := same_upd (o := .lst (xs ++ ys)) nr
  exact ⟨_, upd_same, (h.append h2).keep (Kt.of s)⟩
def sp_lbounds : Sp := fun vs H Q _ => ∃ (d : Addr) (m : Md), vs = [.ref d] ∧ MdAt H d m ∧ (m.own.length ≤ 10 ∧ m.wd.length ≤ 4 ∧ m.bd.length ≤ 40) ∧ ∀ (D : Addr) (H' : Hp), Same H H' → H D = none → RowsAt H' D (bRows m) → Q (.ref D) H'
theorem cal__law_bounds (T : Tp K mg) : Cal P w K mg base 3 "_law_bounds" sp_lbounds := by
  obtain ⟨fd, F⟩ := f__law_bounds T
  refine cal_of F (g__law_bounds T) (b__law_bounds F) sc__law_bounds (fun vs H Q E h => ?_) (fun cdv A outer s H vs Q E hr h => ?_)
  · obtain ⟨d, m, rfl, _⟩ := h
    rfl
  · obtain ⟨d, m, rfl, M, hlen, q⟩ := h
    have hu := hu_of hr
    obtain ⟨o, u, b, ws, bs, h1, h2, h3, h4, h5, h6, h7⟩ := M.ex
    refine ⟨_, (pss_cons (ps_set (i := 1) sc__law_bounds.nd rfl (.inl rfl) (pe_lst pa_nil))
      (pss_cons (ps_for PassesOwn.never rfl (pi_list (pe_dget hu (pv 0) pe_str (fun _ _ => rfl))) (pg_name (i := 2) sc__law_bounds.nd rfl (.inl rfl))
        (pss_one (ps_set (i := 1) sc__law_bounds.nd rfl (.inl rfl) (pe_op op_cat (pv 1) (pe_lst (pa_cons (pe_tup (pa_cons pe_str (pa_cons (pv 2) (pa_cons (pe_dget hu (pv 0) pe_str (fun _ _ => rfl)) pa_nil)))) (pa_cons (pe_tup (pa_cons (pv 2) (pa_cons pe_str (pa_cons pe_int pa_nil)))) pa_nil)))))))
      (pss_cons (ps_for PassesOwn.never rfl (pi_list (C8.pe_c (cal__law_heard T) hr (by decide) rfl (pa_cons (pv 0) pa_nil))) (pg_tup rfl (pgs_cons (pg_name (i := 3) sc__law_bounds.nd rfl (.inl rfl)) (pgs_cons (pg_name (i := 4) sc__law_bounds.nd rfl (.inl rfl)) (pgs_cons (pg_name (i := 5) sc__law_bounds.nd rfl (.inl rfl)) (pgs_cons (pg_name (i := 6) sc__law_bounds.nd rfl (.inl rfl)) pgs_nil)))))
        (pss_one (ps_set (i := 1) sc__law_bounds.nd rfl (.inl rfl) (pe_op op_cat (pv 1) (pe_lst (pa_cons (pe_tup (pa_cons (pv 4) (pa_cons (pv 3) (pa_cons (pv 6) pa_nil)))) (pa_cons (pe_tup (pa_cons (pv 3) (pa_cons (pv 4) (pa_cons (pe_un un_neg (pv 5)) pa_nil)))) pa_nil)))))))
      (pss_cons (ps_for PassesOwn.never rfl (pi_list (pe_dget hu (pv 0) pe_str (fun _ _ => rfl))) (pg_tup rfl (pgs_cons (pg_name (i := 7) sc__law_bounds.nd rfl (.inl rfl)) (pgs_cons (pg_name (i := 8) sc__law_bounds.nd rfl (.inl rfl)) (pgs_cons (pg_name (i := 9) sc__law_bounds.nd rfl (.inl rfl)) (pgs_cons (pg_name (i := 10) sc__law_bounds.nd rfl (.inl rfl)) pgs_nil)))))
        (pss_cons (ps_asg (C8.pe_c (cal__law_offset T) hr (by decide) rfl (pa_cons (pv 0) (pa_cons (pv 7) pa_nil))) (pg_tup rfl (pgs_cons (pg_name (i := 11) sc__law_bounds.nd rfl (.inl rfl)) (pgs_cons (pg_name (i := 5) sc__law_bounds.nd rfl (.inl rfl)) (pgs_cons (pg_name (i := 6) sc__law_bounds.nd rfl (.inl rfl)) pgs_nil)))))
        (pss_cons (ps_asg (C8.pe_c (cal__law_offset T) hr (by decide) rfl (pa_cons (pv 0) (pa_cons (pv 8) pa_nil))) (pg_tup rfl (pgs_cons (pg_name (i := 12) sc__law_bounds.nd rfl (.inl rfl)) (pgs_cons (pg_name (i := 13) sc__law_bounds.nd rfl (.inl rfl)) (pgs_cons (pg_name (i := 14) sc__law_bounds.nd rfl (.inl rfl)) pgs_nil)))))
        (C8.pss_cut (ps_if (pt_cmpR op_notN (pv 10) pe_non (nomark _)) (pss_one (ps_expr (pe_bm PySem.F.plainAttrs_list PySem.F.slot_list_append PySem.F.type_list_append mt_append (pv 1) (pa_cons (pe_tup (pa_cons (pv 11) (pa_cons (pv 12) (pa_cons (pe_op op_add (pe_op op_sub (pv 10) (pv 14)) (pv 5)) pa_nil)))) pa_nil)))) pss_nil)
        (pss_one (ps_if (pt_cmpR op_notN (pv 9) pe_non (nomark _)) (pss_one (ps_expr (pe_bm PySem.F.plainAttrs_list PySem.F.slot_list_append PySem.F.type_list_append mt_append (pv 1) (pa_cons (pe_tup (pa_cons (pv 12) (pa_cons (pv 11) (pa_cons (pe_op op_sub (pe_op op_sub (pv 13) (pv 6)) (pv 9)) pa_nil)))) pa_nil)))) pss_nil))))))
      (pss_one (ps_ret (pv 1))))))), ?_⟩
    refine ⟨Nat.zero_le _, fun D0 nD0 => ?_⟩
    have s0 := same_upd (o := .lst []) nD0
    -- the moments
    refine ⟨_, rfl, d, _, rfl, mk_own (s0 _ _ h1), o, rfl, ⟨_, .inl (.inl (s0 _ _ h2))⟩, for_list (K := K) (a := o) (xs := m.own.map V.str) (fun i σ H2 => ∃ (D : Addr) (y : Option V), σ = [some (.ref d), some (.ref D), y, none, none, none, none, none, none, none, none, none, none, none, none] ∧ H D = none ∧ Same H H2 ∧ RowsAt H2 D ((m.own.take i).flatMap (mRows m.last)))
      ⟨D0, none, rfl, nD0, s0, [], upd_same, .nil⟩ (fun i σ H2 _ ⟨_, _, _, _, s2, _⟩ => .inl (.inl (s2 _ _ h2))) ?_ ?_⟩
    · rintro i v σ H2 hv ⟨D, y, rfl, nD, s2, xs, d1, d2⟩
      rw [List.getElem?_map] at hv
      cases ez : m.own[i]? with
      | none =>
        rw [ez] at hv
        cases hv
      | some z =>
        rw [ez] at hv
        cases hv
        have hi : i < m.own.length := (List.getElem?_eq_some_iff.mp ez).1
        have hxl : xs.length ≤ 20 := by
          rw [d2.len]
          refine Nat.le_trans (fm_len _ 2 (fun _ => Nat.le_refl _) _) ?_
          rw [List.length_take]
          omega
        refine ⟨_, rfl, _, rfl, _, rfl, d, _, rfl, mk_by (s2 _ _ h1), (by show 3 ≤ sizeLine; decide), fun t nt => ?_⟩
        have s3 := same_upd (o := .tup [.str "start", .str z, .int m.last]) nt
        refine ⟨_, rfl, (by show 3 ≤ sizeLine; decide), fun u' nu => ?_⟩
        have s4 := same_upd (o := .tup [.str z, .str "start", .int 0]) nu
        refine ⟨by show 2 ≤ sizeLine; decide, fun l nl => ?_⟩
        have s5 := same_upd (o := .lst [.ref t, .ref u']) nl
        have sA := (s3.trans s4).trans s5
        refine ⟨D, l, xs, [.ref t, .ref u'], rfl, rfl, sA _ _ d1, upd_same, Nat.le_of_lt (small1000 (by show _ + 2 ≤ 1000; omega)), fun r nr => ?_⟩
        refine ⟨r, _, rfl, (s2.trans sA).free nr, (s2.trans sA).trans (same_upd nr), ?_⟩
        rw [fm_take _ ez]
        exact rows_cat (D := D) (E := l) (d2.keep (Kt.of sA)) (.cons ⟨t, rfl, s5 _ _ (s4 _ _ upd_same)⟩ (.cons ⟨u', rfl, s5 _ _ upd_same⟩ .nil)) nr
    · rintro σ H2 ⟨D, y, rfl, nD, s2, dd⟩
      have e0 : m.own.take (m.own.map V.str).length = m.own := List.take_of_length_le (by rw [List.length_map]; exact Nat.le_refl _)
      rw [e0] at dd
      have l1 : (m.own.flatMap (mRows m.last)).length ≤ 20 := by
        have := fm_len (mRows m.last) 2 (fun _ => Nat.le_refl _) m.own
        omega
      -- the spans that are heard
      refine ⟨_, rfl, d, m, rfl, M.same s2, by omega, fun g H3 s3 ng R3 => ?_⟩
      obtain ⟨gs, hg, rg⟩ := R3
      have hsl := hs_len m.wd
      refine ⟨g, rfl, ⟨_, .inl (.inl hg)⟩, for_list (K := K) (a := g) (xs := gs) (fun i σ H4 => ∃ (D : Addr) (y3 y4 y5 y6 : Option V), σ = [some (.ref d), some (.ref D), y, y3, y4, y5, y6, none, none, none, none, none, none, none, none] ∧ H D = none ∧ Same H H4 ∧ Same H3 H4 ∧ RowsAt H4 D (m.own.flatMap (mRows m.last) ++ ((hs m.wd).take i).flatMap h2Rows))
        ⟨D, none, none, none, none, rfl, nD, s2.trans s3, Same.refl _, ?_⟩ (fun i σ H4 _ ⟨_, _, _, _, _, _, _, _, s4, _⟩ => .inl (.inl (s4 _ _ hg))) ?_ ?_⟩
      · show RowsAt H3 D (_ ++ [])
        rw [List.append_nil]
        exact dd.same s3
      · rintro i v σ H4 hv ⟨D, y3, y4, y5, y6, rfl, nD, s4, s34, xs, d1, d2⟩
        obtain ⟨t, x, rfl, ey, ht⟩ := row_of rg hv
        have hi : i < (hs m.wd).length := (List.getElem?_eq_some_iff.mp ey).1
        have hxl : xs.length ≤ 28 := by
          rw [d2.len, List.length_append]
          have := fm_len h2Rows 2 (fun _ => Nat.le_refl _) ((hs m.wd).take i)
          rw [List.length_take] at this
          omega
        refine ⟨t, hRow x, rfl, .inl (.inl (s34 _ _ ht)), rfl, _, _, rfl, _, _, rfl, _, _, rfl, _, _, rfl, rfl, ?_⟩
        refine ⟨_, rfl, _, rfl, _, rfl, _, rfl, (by show 3 ≤ sizeLine; decide), fun t2 nt => ?_⟩
        have s5 := same_upd (o := .tup [.str x.2.1, .str x.1, .int x.2.2.2]) nt
        refine ⟨_, rfl, _, rfl, _, rfl, _, rfl, (by show 3 ≤ sizeLine; decide), fun u' nu => ?_⟩
        have s6 := same_upd (o := .tup [.str x.1, .str x.2.1, .int (-x.2.2.1)]) nu
        refine ⟨by show 2 ≤ sizeLine; decide, fun l nl => ?_⟩
        have s7 := same_upd (o := .lst [.ref t2, .ref u']) nl
        have sA := (s5.trans s6).trans s7
        refine ⟨D, l, xs, [.ref t2, .ref u'], rfl, rfl, sA _ _ d1, upd_same, Nat.le_of_lt (small1000 (by show _ + 2 ≤ 1000; omega)), fun r nr => ?_⟩
        refine ⟨r, _, _, _, _, rfl, (s4.trans sA).free nr, (s4.trans sA).trans (same_upd nr), (s34.trans sA).trans (same_upd nr), ?_⟩
        rw [fm_take _ ey, ← List.append_assoc]
        exact rows_cat (D := D) (E := l) (d2.keep (Kt.of sA)) (.cons ⟨t2, rfl, s7 _ _ (s6 _ _ upd_same)⟩ (.cons ⟨u', rfl, s7 _ _ upd_same⟩ .nil)) nr
      · rintro σ H4 ⟨D, y3, y4, y5, y6, rfl, nD, s4, s34, dd⟩
        have e0 : (hs m.wd).take gs.length = hs m.wd := List.take_of_length_le (by rw [rg.len, List.length_map]; exact Nat.le_refl _)
        rw [e0] at dd
        -- the ties
        refine ⟨_, rfl, d, _, rfl, mk_bd (s4 _ _ h1), b, rfl, ⟨_, .inl (.inl (s4 _ _ h5))⟩, for_list (K := K) (a := b) (xs := bs) (fun i σ H6 => ∃ (y5 y6 y7 y8 y9 y10 y11 y12 y13 y14 : Option V), σ = [some (.ref d), some (.ref D), y, y3, y4, y5, y6, y7, y8, y9, y10, y11, y12, y13, y14] ∧ Same H H6 ∧ RowsAt H6 D (m.own.flatMap (mRows m.last) ++ (hs m.wd).flatMap h2Rows ++ (m.bd.take i).flatMap (tieRows m.wd)))
          ⟨y5, y6, none, none, none, none, none, none, none, none, rfl, s4, ?_⟩ (fun i σ H6 _ ⟨_, _, _, _, _, _, _, _, _, _, _, s6, _⟩ => .inl (.inl (s6 _ _ h5))) ?_ ?_⟩
        · show RowsAt _ D (_ ++ [])
          rw [List.append_nil]
          exact dd
        · rintro i v σ H6 hv ⟨z5, z6, z7, z8, z9, z10, z11, z12, z13, z14, rfl, s6, xs, d1, d2⟩
          obtain ⟨t, x, rfl, ey, ht⟩ := row_of h6 hv
          have hi : i < m.bd.length := (List.getElem?_eq_some_iff.mp ey).1
          have hxl : xs.length ≤ 108 := by
            rw [d2.len, List.length_append, List.length_append]
            have := fm_len (tieRows m.wd) 2 (tie_len m.wd) (m.bd.take i)
            have := fm_len h2Rows 2 (fun _ => Nat.le_refl _) (hs m.wd)
            rw [List.length_take] at *
            omega
          refine ⟨t, x.row, rfl, .inl (.inl (s6 _ _ ht)), rfl, _, _, rfl, _, _, rfl, _, _, rfl, _, _, rfl, rfl, ?_⟩
          refine ⟨_, rfl, _, rfl, d, m, x.one, rfl, M.same s6, fun u1 H7 s7 nu1 hu1 => ⟨u1, _, rfl, .inl (.inl hu1), rfl, _, _, rfl, _, _, rfl, _, _, rfl, rfl, ?_⟩⟩
          refine ⟨_, rfl, _, rfl, d, m, x.oth, rfl, (M.same s6).same s7, fun u2 H8 s8 nu2 hu2 => ⟨u2, _, rfl, .inl (.inl hu2), rfl, _, _, rfl, _, _, rfl, _, _, rfl, rfl, ?_⟩⟩
          have sA := s7.trans s8
          have sB := s6.trans sA
          refine ⟨fun σ' H' => σ' = [some (.ref d), some (.ref D), y, y3, y4, some (.int (offW x.one m.wd).2.1), some (.int (offW x.one m.wd).2.2), some (.str x.one), some (.str x.oth), some (oV x.bot), some (oV x.top), some (.str (offW x.one m.wd).1), some (.str (offW x.oth m.wd).1), some (.int (offW x.oth m.wd).2.1), some (.int (offW x.oth m.wd).2.2)] ∧
            Same H H' ∧ ∃ ys, H' D = some (.lst ys) ∧ ys.length ≤ 109 ∧ Rows H' ys (m.own.flatMap (mRows m.last) ++ (hs m.wd).flatMap h2Rows ++ (m.bd.take i).flatMap (tieRows m.wd) ++ topRow (offW x.one m.wd) (offW x.oth m.wd) x.top), ?_, ?_⟩
          · refine ⟨_, rfl, rfl, _, rfl, ?_⟩
            rw [oV_non]
            cases ex : x.top with
            | none =>
              refine iteF ⟨rfl, sB, xs, sA _ _ d1, by omega, ?_⟩
              show Rows H8 xs (_ ++ [])
              rw [List.append_nil]
              exact d2.keep (Kt.of sA)
            | some j =>
              refine iteT ⟨_, rfl, .inl ⟨rfl, _, .inl (.inl (sA _ _ d1))⟩, _, rfl, _, rfl, _, rfl, _, rfl, j, _, rfl, rfl, _, rfl, _, _, rfl, rfl, (by show 3 ≤ sizeLine; decide), fun r nr => ?_⟩
              have s9 := same_upd (o := .tup [.str (offW x.one m.wd).1, .str (offW x.oth m.wd).1, .int (j - (offW x.oth m.wd).2.2 + (offW x.one m.wd).2.1)]) nr
              obtain ⟨ys, e1, e2⟩ := rows_add (r := [.str (offW x.one m.wd).1, .str (offW x.oth m.wd).1, .int (j - (offW x.oth m.wd).2.2 + (offW x.one m.wd).2.1)]) (sA _ _ d1) (d2.keep (Kt.of sA)) nr
              refine ⟨D, xs, _, rfl, rfl, s9 _ _ (sA _ _ d1), small1000 (by omega), rfl, same_put (sB.trans s9) nD, ys, e1, ?_, e2⟩
              rw [e2.len, List.length_append, ← d2.len]
              show xs.length + 1 ≤ _
              omega
          · rintro σ' H' ⟨rfl, s9, ys, e1, el, e2⟩
            refine ⟨_, rfl, rfl, _, rfl, ?_⟩
            rw [oV_non]
            have done : ∀ {H'' : Hp} (zs : List (List V)), RowsAt H'' D (m.own.flatMap (mRows m.last) ++ (hs m.wd).flatMap h2Rows ++ (m.bd.take i).flatMap (tieRows m.wd) ++ topRow (offW x.one m.wd) (offW x.oth m.wd) x.top ++ zs) → zs = botRow (offW x.one m.wd) (offW x.oth m.wd) x.bot → RowsAt H'' D (m.own.flatMap (mRows m.last) ++ (hs m.wd).flatMap h2Rows ++ (m.bd.take (i + 1)).flatMap (tieRows m.wd)) := fun zs h e => by
              rw [fm_take _ ey]
              unfold tieRows
              rw [e] at h
              simp only [List.append_assoc] at h ⊢
              exact h
            cases ex : x.bot with
            | none =>
              refine iteF ⟨_, _, _, _, _, _, _, _, _, _, rfl, s9, done [] ⟨ys, e1, ?_⟩ (by rw [ex]; rfl)⟩
              rw [List.append_nil]
              exact e2
            | some j =>
              refine iteT ⟨_, rfl, .inl ⟨rfl, _, .inl (.inl e1)⟩, _, rfl, _, rfl, _, rfl, _, rfl, _, _, rfl, rfl, _, rfl, _, j, rfl, rfl, (by show 3 ≤ sizeLine; decide), fun r nr => ?_⟩
              have s10 := same_upd (o := .tup [.str (offW x.oth m.wd).1, .str (offW x.one m.wd).1, .int ((offW x.oth m.wd).2.1 - (offW x.one m.wd).2.2 - j)]) nr
              exact ⟨D, ys, _, rfl, rfl, s10 _ _ e1, small1000 (by omega), _, _, _, _, _, _, _, _, _, _, rfl, same_put (s9.trans s10) nD, done _ (rows_add e1 e2 nr) (by rw [ex]; rfl)⟩
        · rintro σ H6 ⟨z5, z6, z7, z8, z9, z10, z11, z12, z13, z14, rfl, s6, dd⟩
          have e0 : m.bd.take bs.length = m.bd := List.take_of_length_le (by rw [h6.len, List.length_map]; exact Nat.le_refl _)
          rw [e0] at dd
          exact ⟨_, rfl, q D H6 s6 nD dd⟩
end
end Tw

set_option maxHeartbeats 4000000
namespace Tw
open PySem PySem.Spec PyProof.Rows L2
theorem bb_max : bootBuiltins "max" = some (.builtin "max") := by decide +kernel
/-! rules.py: facts, and what the rules make of them -/
abbrev kS (z : Str) : Key := .inr z
/-- a bound (x, y, amount), or, with u, a wait (end, x, amount) -/
structure Ft where
  u : Bool
  a : Str
  b : Str
  n : Int
def Ft.wd (f : Ft) : Str := if f.u = true then "until" else "most"
def Ft.row (f : Ft) : List V := [.str f.wd, .str f.a, .str f.b, .int f.n]
theorem wd_most (f : Ft) : decide (V.str f.wd = V.str "most") = !f.u := by
  unfold Ft.wd
  cases f.u
  · exact decide_eq_true rfl
  · exact decide_eq_false (fun z => absurd (V.str.inj z) (by decide +kernel))
theorem wd_until (f : Ft) : decide (V.str f.wd = V.str "until") = f.u := by
  unfold Ft.wd
  cases f.u
  · exact decide_eq_false (fun z => absurd (V.str.inj z) (by decide +kernel))
  · exact decide_eq_true rfl
/-- what the rules know of the heard spans -/
abbrev Hk : Type := Str → Option (Str × Int)
def hkS (f : Hk) (h : Str × Str × Int × Int) : Hk := fun z => if z = h.1 then some (h.2.1, h.2.2.1) else f z
def hkOf (l : List (Str × Str × Int × Int)) : Hk := l.foldl hkS fun _ => none
/-- .. in a dict -/
def HdK (H : Hp) (kvs : List (Key × V)) (f : Hk) : Prop := ∀ z, match f z with
  | none => valV kvs (kS z) = none
  | some r => ∃ t, valV kvs (kS z) = some (.ref t) ∧ H t = some (.tup [.str r.1, .int r.2])
def HdD (H : Hp) (d : Addr) (f : Hk) : Prop := ∃ kvs, H d = some (.dK kvs) ∧ HdK H kvs f
theorem HdK.keep {H H' : Hp} {kvs : List (Key × V)} {f : Hk} (h : HdK H kvs f) (k : Kt H H') : HdK H' kvs f := fun z => by
  have hz := h z
  cases e : f z with
  | none =>
    rw [e] at hz
    exact hz
  | some r =>
    rw [e] at hz
    obtain ⟨t, h1, h2⟩ := hz
    exact ⟨t, h1, k _ _ h2⟩
theorem HdD.same {H H' : Hp} {d : Addr} {f : Hk} (h : HdD H d f) (s : Same H H') : HdD H' d f := by
  obtain ⟨kvs, h1, h2⟩ := h
  exact ⟨kvs, s _ _ h1, h2.keep (Kt.of s)⟩
theorem HdK.put {H : Hp} {kvs : List (Key × V)} {f : Hk} {h : Str × Str × Int × Int} {t : Addr} (k : HdK H kvs f) (ht : H t = some (.tup [.str h.2.1, .int h.2.2.1])) : HdK H (putK kvs (kS h.1) (.ref t)) (hkS f h) := fun z => by
  unfold hkS
  by_cases e : z = h.1
  · rw [if_pos e]
    exact ⟨t, by rw [valV_put, if_pos (by rw [e])], ht⟩
  · rw [if_neg e]
    have hz := k z
    have ev : valV (putK kvs (kS h.1) (.ref t)) (kS z) = valV kvs (kS z) := by rw [valV_put, if_neg (fun q => e (Sum.inr.inj q))]
    cases ef : f z with
    | none =>
      rw [ef] at hz
      show valV _ _ = none
      rw [ev]
      exact hz
    | some r =>
      rw [ef] at hz
      obtain ⟨t', h1, h2⟩ := hz
      exact ⟨t', by rw [ev]; exact h1, h2⟩
theorem HdD.none {H : Hp} {d : Addr} {f : Hk} {z : Str} (h : HdD H d f) (e : f z = none) : DGet H d (.str z) none := by
  obtain ⟨kvs, h1, h2⟩ := h
  have hz := h2 z
  rw [e] at hz
  exact .inl ⟨kvs, kS z, .inl h1, rfl, hz.symm⟩
theorem HdD.some {H : Hp} {d : Addr} {f : Hk} {z : Str} {r : Str × Int} (h : HdD H d f) (e : f z = some r) : ∃ t, DGet H d (.str z) (some (.ref t)) ∧ H t = some (.tup [.str r.1, .int r.2]) := by
  obtain ⟨kvs, h1, h2⟩ := h
  have hz := h2 z
  rw [e] at hz
  obtain ⟨t, h3, h4⟩ := hz
  exact ⟨t, .inl ⟨kvs, kS z, .inl h1, rfl, h3.symm⟩, h4⟩
/-! ### the rules -/
def rAlong (o p : Ft) : Option Ft := if o.u = false ∧ p.u = false ∧ o.b = p.a then some ⟨false, o.a, p.b, o.n + p.n⟩ else none
def rWait (o p : Ft) : Option Ft := if o.u = false ∧ p.u = true ∧ o.b = p.b then some ⟨true, p.a, o.a, o.n + p.n⟩ else none
def rSure (f : Hk) (o : Ft) : Option Ft := if o.u = true then (f o.a).map fun r => ⟨false, o.b, r.1, max o.n (-r.2)⟩ else none
def rSoon (f : Hk) (o : Ft) : Option Ft := if o.u = false ∧ o.n < 0 then (f o.a).map fun r => ⟨false, r.1, o.b, r.2 + o.n⟩ else none
def rAhead (f : Hk) (o : Ft) : Option Ft := if o.u = true ∧ ¬ o.a = o.b ∧ o.n < 0 then (f o.b).map fun r => ⟨true, o.a, r.1, r.2 + o.n⟩ else none
/-- None, or a new fact -/
def MadeF (r : Option Ft) (H : Hp) (Q : VK) : Prop := (r = none → Q .non H) ∧ ∀ f, r = some f → ∀ t, H t = none → Q (.ref t) (upd H t (.tup f.row))
section
variable {P : Program} {w : World} {K : PySem.W.Frag} {mg : Str → Option Value} {base : Heap}
def sp_pair (rule : Ft → Ft → Option Ft) : Sp := fun vs H Q _ => ∃ (s t : Addr) (o p : Ft), vs = [.ref s, .ref t] ∧ H s = some (.tup o.row) ∧ H t = some (.tup p.row) ∧ MadeF (rule o p) H Q
theorem cal_along (T : Tp K mg) : Cal P w K mg base 1 "along" (sp_pair rAlong) := by
  obtain ⟨fd, F⟩ := f_along T
  refine cal_of F (g_along T) (b_along F) sc_along (fun vs H Q E h => ?_) (fun cdv A outer s H vs Q E hr h => ?_)
  · obtain ⟨s, t, o, p, rfl, _⟩ := h
    rfl
  · obtain ⟨s, t, o, p, rfl, hs, ht, q1, q2⟩ := h
    have S : SqT K H s o.row := .inl (.inl hs)
    have S' : SqT K H t p.row := .inl (.inl ht)
    refine ⟨_, (pss_cons (ps_if (PW.pt (pw_or (pt_cmpR op_ne (pe_ix ix_tup (pv 0) pe_int (fun _ _ => rfl)) (C8.pe_gc (by rfl) (c_MOST T)) (nomark _)) (pw_or (pt_cmpR op_ne (pe_ix ix_tup (pv 1) pe_int (fun _ _ => rfl)) (C8.pe_gc (by rfl) (c_MOST T)) (nomark _)) (pw_or1 (pt_cmpR op_ne (pe_ix ix_tup (pv 0) pe_int (fun _ _ => rfl)) (pe_ix ix_tup (pv 1) pe_int (fun _ _ => rfl)) (nomark _)))))) (pss_one (ps_ret pe_non)) pss_nil)
      (pss_one (ps_ret (pe_tup (pa_cons (C8.pe_gc (by rfl) (c_MOST T)) (pa_cons (pe_ix ix_tup (pv 0) pe_int (fun _ _ => rfl)) (pa_cons (pe_ix ix_tup (pv 1) pe_int (fun _ _ => rfl)) (pa_cons (pe_op op_add (pe_ix ix_tup (pv 0) pe_int (fun _ _ => rfl)) (pe_ix ix_tup (pv 1) pe_int (fun _ _ => rfl))) pa_nil)))))))), ?_⟩
    refine ⟨_, rfl, s, _, 0, _, rfl, rfl, S, atI_nat (j := 0) rfl, rfl, _, rfl, ?_⟩
    rw [wd_most]
    cases eo : o.u with
    | true => exact iteT (q1 (by unfold rAlong; rw [if_neg (by rw [eo]; intro z; cases z.1)]))
    | false =>
      refine iteF ⟨_, rfl, t, _, 0, _, rfl, rfl, S', atI_nat (j := 0) rfl, rfl, _, rfl, ?_⟩
      rw [wd_most]
      cases ep : p.u with
      | true => exact iteT (q1 (by unfold rAlong; rw [if_neg (by rw [ep]; intro z; cases z.2.1)]))
      | false =>
        refine iteF ⟨_, rfl, s, _, 2, _, rfl, rfl, S, atI_nat (j := 2) rfl, _, rfl, t, _, 1, _, rfl, rfl, S', atI_nat (j := 1) rfl, rfl, _, rfl, ?_⟩
        by_cases c : o.b = p.a
        · rw [decide_eq_true (show V.str o.b = V.str p.a by rw [c])]
          refine iteF ⟨_, rfl, s, _, 1, _, rfl, rfl, S, atI_nat (j := 1) rfl, _, rfl, t, _, 2, _, rfl, rfl, S', atI_nat (j := 2) rfl, _, rfl, s, _, 3, _, rfl, rfl, S, atI_nat (j := 3) rfl, _, rfl, t, _, 3, _, rfl, rfl, S', atI_nat (j := 3) rfl, o.n, p.n, rfl, rfl, (by show 4 ≤ sizeLine; decide), fun x nx => ?_⟩
          exact q2 ⟨false, o.a, p.b, o.n + p.n⟩ (by unfold rAlong; rw [if_pos ⟨eo, ep, c⟩]) x nx
        · rw [decide_eq_false (show ¬ V.str o.b = V.str p.a from fun z => c (V.str.inj z))]
          exact iteT (q1 (by unfold rAlong; rw [if_neg (fun z => c z.2.2)]))
theorem cal_wait (T : Tp K mg) : Cal P w K mg base 1 "wait" (sp_pair rWait) := by
  obtain ⟨fd, F⟩ := f_wait T
  refine cal_of F (g_wait T) (b_wait F) sc_wait (fun vs H Q E h => ?_) (fun cdv A outer s H vs Q E hr h => ?_)
  · obtain ⟨s, t, o, p, rfl, _⟩ := h
    rfl
  · obtain ⟨s, t, o, p, rfl, hs, ht, q1, q2⟩ := h
    have S : SqT K H s o.row := .inl (.inl hs)
    have S' : SqT K H t p.row := .inl (.inl ht)
    refine ⟨_, (pss_cons (ps_if (PW.pt (pw_or (pt_cmpR op_ne (pe_ix ix_tup (pv 0) pe_int (fun _ _ => rfl)) (C8.pe_gc (by rfl) (c_MOST T)) (nomark _)) (pw_or (pt_cmpR op_ne (pe_ix ix_tup (pv 1) pe_int (fun _ _ => rfl)) (C8.pe_gc (by rfl) (c_UNTIL T)) (nomark _)) (pw_or1 (pt_cmpR op_ne (pe_ix ix_tup (pv 0) pe_int (fun _ _ => rfl)) (pe_ix ix_tup (pv 1) pe_int (fun _ _ => rfl)) (nomark _)))))) (pss_one (ps_ret pe_non)) pss_nil)
      (pss_one (ps_ret (pe_tup (pa_cons (C8.pe_gc (by rfl) (c_UNTIL T)) (pa_cons (pe_ix ix_tup (pv 1) pe_int (fun _ _ => rfl)) (pa_cons (pe_ix ix_tup (pv 0) pe_int (fun _ _ => rfl)) (pa_cons (pe_op op_add (pe_ix ix_tup (pv 0) pe_int (fun _ _ => rfl)) (pe_ix ix_tup (pv 1) pe_int (fun _ _ => rfl))) pa_nil)))))))), ?_⟩
    refine ⟨_, rfl, s, _, 0, _, rfl, rfl, S, atI_nat (j := 0) rfl, rfl, _, rfl, ?_⟩
    rw [wd_most]
    cases eo : o.u with
    | true => exact iteT (q1 (by unfold rWait; rw [if_neg (by rw [eo]; intro z; cases z.1)]))
    | false =>
      refine iteF ⟨_, rfl, t, _, 0, _, rfl, rfl, S', atI_nat (j := 0) rfl, rfl, _, rfl, ?_⟩
      rw [wd_until]
      cases ep : p.u with
      | false => exact iteT (q1 (by unfold rWait; rw [if_neg (by rw [ep]; intro z; cases z.2.1)]))
      | true =>
        refine iteF ⟨_, rfl, s, _, 2, _, rfl, rfl, S, atI_nat (j := 2) rfl, _, rfl, t, _, 2, _, rfl, rfl, S', atI_nat (j := 2) rfl, rfl, _, rfl, ?_⟩
        by_cases c : o.b = p.b
        · rw [decide_eq_true (show V.str o.b = V.str p.b by rw [c])]
          refine iteF ⟨_, rfl, t, _, 1, _, rfl, rfl, S', atI_nat (j := 1) rfl, _, rfl, s, _, 1, _, rfl, rfl, S, atI_nat (j := 1) rfl, _, rfl, s, _, 3, _, rfl, rfl, S, atI_nat (j := 3) rfl, _, rfl, t, _, 3, _, rfl, rfl, S', atI_nat (j := 3) rfl, o.n, p.n, rfl, rfl, (by show 4 ≤ sizeLine; decide), fun x nx => ?_⟩
          exact q2 ⟨true, p.a, o.a, o.n + p.n⟩ (by unfold rWait; rw [if_pos ⟨eo, ep, c⟩]) x nx
        · rw [decide_eq_false (show ¬ V.str o.b = V.str p.b from fun z => c (V.str.inj z))]
          exact iteT (q1 (by unfold rWait; rw [if_neg (fun z => c z.2.2)]))
/-- a rule of one fact -/
def sp_single (ok : Hk → Ft → Prop) (rule : Hk → Ft → Option Ft) : Sp := fun vs H Q _ => ∃ (d t : Addr) (f : Hk) (o : Ft), vs = [.ref d, .ref t] ∧ HdD H d f ∧ H t = some (.tup o.row) ∧ ok f o ∧ MadeF (rule f o) H Q
def okSure (f : Hk) (o : Ft) : Prop := o.u = true → (f o.a).isSome = true
theorem cal_sure (T : Tp K mg) : Cal P w K mg base 1 "sure" (sp_single okSure rSure) := by
  obtain ⟨fd, F⟩ := f_sure T
  refine cal_of F (g_sure T) (b_sure F) sc_sure (fun vs H Q E h => ?_) (fun cdv A outer s H vs Q E hr h => ?_)
  · obtain ⟨d, t, f, o, rfl, _⟩ := h
    rfl
  · obtain ⟨d, t, f, o, rfl, D, ht, ok, q1, q2⟩ := h
    have hu := hu_of hr
    have S : SqT K H t o.row := .inl (.inl ht)
    refine ⟨_, (pss_cons (ps_if (pt_cmpR op_ne (pe_ix ix_tup (pv 1) pe_int (fun _ _ => rfl)) (C8.pe_gc (by rfl) (c_UNTIL T)) (nomark _)) (pss_one (ps_ret pe_non)) pss_nil)
      (pss_cons (ps_asg (pe_dget hu (pv 0) (pe_ix ix_tup (pv 1) pe_int (fun _ _ => rfl)) (fun _ _ => rfl)) (pg_tup rfl (pgs_cons (pg_name (i := 2) sc_sure.nd rfl (.inl rfl)) (pgs_cons (pg_name (i := 3) sc_sure.nd rfl (.inl rfl)) pgs_nil))))
      (pss_one (ps_ret (pe_tup (pa_cons (C8.pe_gc (by rfl) (c_MOST T)) (pa_cons (pe_ix ix_tup (pv 1) pe_int (fun _ _ => rfl)) (pa_cons (pv 2) (pa_cons (pe_callB (call_max2 rfl) (by rfl) (z_max T) bb_max (pa_cons (pe_ix ix_tup (pv 1) pe_int (fun _ _ => rfl)) (pa_cons (pe_un un_neg (pv 3)) pa_nil))) pa_nil))))))))), ?_⟩
    refine ⟨_, rfl, t, _, 0, _, rfl, rfl, S, atI_nat (j := 0) rfl, rfl, _, rfl, ?_⟩
    rw [wd_until]
    cases eo : o.u with
    | false => exact iteT (q1 (by unfold rSure; rw [if_neg (by rw [eo]; intro z; cases z)]))
    | true =>
      obtain ⟨r, er⟩ := Option.isSome_iff_exists.mp (ok eo)
      obtain ⟨t2, g, ht2⟩ := D.some er
      refine iteF ⟨_, rfl, _, rfl, t, _, 1, _, rfl, rfl, S, atI_nat (j := 1) rfl, d, _, rfl, g, t2, _, rfl, .inl (.inl ht2), rfl, _, _, rfl, _, _, rfl, rfl, ?_⟩
      refine ⟨_, rfl, t, _, 2, _, rfl, rfl, S, atI_nat (j := 2) rfl, _, rfl, _, rfl, t, _, 3, _, rfl, rfl, S, atI_nat (j := 3) rfl, _, rfl, _, rfl, o.n, -r.2, rfl, (by show 4 ≤ sizeLine; decide), fun x nx => ?_⟩
      have em : (if -r.2 > o.n then -r.2 else o.n) = max o.n (-r.2) := by
        by_cases c : -r.2 > o.n
        · rw [if_pos c]
          omega
        · rw [if_neg c]
          omega
      rw [em]
      exact q2 ⟨false, o.b, r.1, max o.n (-r.2)⟩ (by unfold rSure; rw [if_pos eo, er]; rfl) x nx
def okAll (f : Hk) (o : Ft) : Prop := True
theorem cal_soon (T : Tp K mg) : Cal P w K mg base 1 "soon" (sp_single okAll rSoon) := by
  obtain ⟨fd, F⟩ := f_soon T
  refine cal_of F (g_soon T) (b_soon F) sc_soon (fun vs H Q E h => ?_) (fun cdv A outer s H vs Q E hr h => ?_)
  · obtain ⟨d, t, f, o, rfl, _⟩ := h
    rfl
  · obtain ⟨d, t, f, o, rfl, D, ht, ok, q1, q2⟩ := h
    have hu := hu_of hr
    have S : SqT K H t o.row := .inl (.inl ht)
    refine ⟨_, (pss_cons (ps_if (PW.pt (pw_or (pt_cmpR op_ne (pe_ix ix_tup (pv 1) pe_int (fun _ _ => rfl)) (C8.pe_gc (by rfl) (c_MOST T)) (nomark _)) (pw_or (pt_cmp (pc_dnotin hu (pe_ix ix_tup (pv 1) pe_int (fun _ _ => rfl)) (pv 0)) (by rfl)) (pw_or1 (pt_cmpR op_ge (pe_ix ix_tup (pv 1) pe_int (fun _ _ => rfl)) pe_int (nomark _)))))) (pss_one (ps_ret pe_non)) pss_nil)
      (pss_cons (ps_asg (pe_dget hu (pv 0) (pe_ix ix_tup (pv 1) pe_int (fun _ _ => rfl)) (fun _ _ => rfl)) (pg_tup rfl (pgs_cons (pg_name (i := 2) sc_soon.nd rfl (.inl rfl)) (pgs_cons (pg_name (i := 3) sc_soon.nd rfl (.inl rfl)) pgs_nil))))
      (pss_one (ps_ret (pe_tup (pa_cons (C8.pe_gc (by rfl) (c_MOST T)) (pa_cons (pv 2) (pa_cons (pe_ix ix_tup (pv 1) pe_int (fun _ _ => rfl)) (pa_cons (pe_op op_add (pv 3) (pe_ix ix_tup (pv 1) pe_int (fun _ _ => rfl))) pa_nil))))))))), ?_⟩
    refine ⟨_, rfl, t, _, 0, _, rfl, rfl, S, atI_nat (j := 0) rfl, rfl, _, rfl, ?_⟩
    rw [wd_most]
    cases eo : o.u with
    | true => exact iteT (q1 (by unfold rSoon; rw [if_neg (by rw [eo]; intro z; cases z.1)]))
    | false =>
      cases er : f o.a with
      | none => exact iteF ⟨_, rfl, t, _, 1, _, rfl, rfl, S, atI_nat (j := 1) rfl, _, rfl, d, _, rfl, D.none er, _, rfl, iteT (q1 (by unfold rSoon; rw [er]; by_cases c : o.u = false ∧ o.n < 0; rw [if_pos c]; rfl; rw [if_neg c]))⟩
      | some r =>
        obtain ⟨t2, g, ht2⟩ := D.some er
        refine iteF ⟨_, rfl, t, _, 1, _, rfl, rfl, S, atI_nat (j := 1) rfl, _, rfl, d, _, rfl, g, _, rfl, iteF ⟨_, rfl, t, _, 3, _, rfl, rfl, S, atI_nat (j := 3) rfl, o.n, 0, rfl, rfl, _, rfl, ?_⟩⟩
        by_cases c : o.n < 0
        · rw [decide_eq_false (by omega : ¬ (0 : Int) ≤ o.n)]
          refine iteF ⟨_, rfl, _, rfl, t, _, 1, _, rfl, rfl, S, atI_nat (j := 1) rfl, d, _, rfl, g, t2, _, rfl, .inl (.inl ht2), rfl, _, _, rfl, _, _, rfl, rfl, ?_⟩
          refine ⟨_, rfl, _, rfl, t, _, 2, _, rfl, rfl, S, atI_nat (j := 2) rfl, _, rfl, _, rfl, t, _, 3, _, rfl, rfl, S, atI_nat (j := 3) rfl, r.2, o.n, rfl, rfl, (by show 4 ≤ sizeLine; decide), fun x nx => ?_⟩
          exact q2 ⟨false, r.1, o.b, r.2 + o.n⟩ (by unfold rSoon; rw [if_pos ⟨eo, c⟩, er]; rfl) x nx
        · rw [decide_eq_true (by omega : (0 : Int) ≤ o.n)]
          exact iteT (q1 (by unfold rSoon; rw [if_neg (fun z => c z.2)]))
theorem cal_ahead (T : Tp K mg) : Cal P w K mg base 1 "ahead" (sp_single okAll rAhead) := by
  obtain ⟨fd, F⟩ := f_ahead T
  refine cal_of F (g_ahead T) (b_ahead F) sc_ahead (fun vs H Q E h => ?_) (fun cdv A outer s H vs Q E hr h => ?_)
  · obtain ⟨d, t, f, o, rfl, _⟩ := h
    rfl
  · obtain ⟨d, t, f, o, rfl, D, ht, ok, q1, q2⟩ := h
    have hu := hu_of hr
    have S : SqT K H t o.row := .inl (.inl ht)
    refine ⟨_, (pss_cons (ps_if (PW.pt (pw_or (pt_cmpR op_ne (pe_ix ix_tup (pv 1) pe_int (fun _ _ => rfl)) (C8.pe_gc (by rfl) (c_UNTIL T)) (nomark _)) (pw_or (pt_cmp (pc_dnotin hu (pe_ix ix_tup (pv 1) pe_int (fun _ _ => rfl)) (pv 0)) (by rfl)) (pw_or (pt_cmpR op_eq (pe_ix ix_tup (pv 1) pe_int (fun _ _ => rfl)) (pe_ix ix_tup (pv 1) pe_int (fun _ _ => rfl)) (nomark _)) (pw_or1 (pt_cmpR op_ge (pe_ix ix_tup (pv 1) pe_int (fun _ _ => rfl)) pe_int (nomark _))))))) (pss_one (ps_ret pe_non)) pss_nil)
      (pss_cons (ps_asg (pe_dget hu (pv 0) (pe_ix ix_tup (pv 1) pe_int (fun _ _ => rfl)) (fun _ _ => rfl)) (pg_tup rfl (pgs_cons (pg_name (i := 2) sc_ahead.nd rfl (.inl rfl)) (pgs_cons (pg_name (i := 3) sc_ahead.nd rfl (.inl rfl)) pgs_nil))))
      (pss_one (ps_ret (pe_tup (pa_cons (C8.pe_gc (by rfl) (c_UNTIL T)) (pa_cons (pe_ix ix_tup (pv 1) pe_int (fun _ _ => rfl)) (pa_cons (pv 2) (pa_cons (pe_op op_add (pv 3) (pe_ix ix_tup (pv 1) pe_int (fun _ _ => rfl))) pa_nil))))))))), ?_⟩
    refine ⟨_, rfl, t, _, 0, _, rfl, rfl, S, atI_nat (j := 0) rfl, rfl, _, rfl, ?_⟩
    rw [wd_until]
    cases eo : o.u with
    | false => exact iteT (q1 (by unfold rAhead; rw [if_neg (by rw [eo]; intro z; cases z.1)]))
    | true =>
      cases er : f o.b with
      | none => exact iteF ⟨_, rfl, t, _, 2, _, rfl, rfl, S, atI_nat (j := 2) rfl, _, rfl, d, _, rfl, D.none er, _, rfl, iteT (q1 (by unfold rAhead; rw [er]; by_cases c : o.u = true ∧ ¬ o.a = o.b ∧ o.n < 0; rw [if_pos c]; rfl; rw [if_neg c]))⟩
      | some r =>
        obtain ⟨t2, g, ht2⟩ := D.some er
        refine iteF ⟨_, rfl, t, _, 2, _, rfl, rfl, S, atI_nat (j := 2) rfl, _, rfl, d, _, rfl, g, _, rfl, iteF ⟨_, rfl, t, _, 1, _, rfl, rfl, S, atI_nat (j := 1) rfl, _, rfl, t, _, 2, _, rfl, rfl, S, atI_nat (j := 2) rfl, rfl, _, rfl, ?_⟩⟩
        by_cases c1 : o.a = o.b
        · rw [decide_eq_true (show V.str o.a = V.str o.b by rw [c1])]
          exact iteT (q1 (by unfold rAhead; rw [if_neg (fun z => z.2.1 c1)]))
        · rw [decide_eq_false (show ¬ V.str o.a = V.str o.b from fun z => c1 (V.str.inj z))]
          refine iteF ⟨_, rfl, t, _, 3, _, rfl, rfl, S, atI_nat (j := 3) rfl, o.n, 0, rfl, rfl, _, rfl, ?_⟩
          by_cases c : o.n < 0
          · rw [decide_eq_false (by omega : ¬ (0 : Int) ≤ o.n)]
            refine iteF ⟨_, rfl, _, rfl, t, _, 2, _, rfl, rfl, S, atI_nat (j := 2) rfl, d, _, rfl, g, t2, _, rfl, .inl (.inl ht2), rfl, _, _, rfl, _, _, rfl, rfl, ?_⟩
            refine ⟨_, rfl, t, _, 1, _, rfl, rfl, S, atI_nat (j := 1) rfl, _, rfl, _, rfl, _, rfl, t, _, 3, _, rfl, rfl, S, atI_nat (j := 3) rfl, r.2, o.n, rfl, rfl, (by show 4 ≤ sizeLine; decide), fun x nx => ?_⟩
            exact q2 ⟨true, o.a, r.1, r.2 + o.n⟩ (by unfold rAhead; rw [if_pos ⟨eo, c1, c⟩, er]; rfl) x nx
          · rw [decide_eq_true (by omega : (0 : Int) ≤ o.n)]
            exact iteT (q1 (by unfold rAhead; rw [if_neg (fun z => c z.2.2)]))
/-! ### heard_begins, late_waits -/
def sp_hbegins (K : PySem.W.Frag) : Sp := fun vs H Q _ => ∃ (p : Addr) (m : Md), vs = [.ref p] ∧ WebAt (CW K) H p m ∧ ∀ (d : Addr) (H' : Hp), Same H H' → H d = none → HdD H' d (hkOf (hs m.wd)) → Q (.ref d) H'
theorem cal_heard_begins (T : Tp K mg) : Cal P w K mg base 6 "heard_begins" (sp_hbegins K) := by
  obtain ⟨fd, F⟩ := f_heard_begins T
  refine cal_of F (g_heard_begins T) (b_heard_begins F) sc_heard_begins (fun vs H Q E h => ?_) (fun cdv A outer s H vs Q E hr h => ?_)
  · obtain ⟨p, m, rfl, _⟩ := h
    rfl
  · obtain ⟨p, m, rfl, W, q⟩ := h
    have hlen := W.len
    have hl := hs_len m.wd
    refine ⟨_, (pss_one (ps_ret (pe_dc (own := [("end", 1), ("begin", 2), ("first", 3), ("last", 4)]) (tt := tYes) rfl sc_heard_begins.nd (pi_list (C8.pe_c (cal_heard_spans T) hr (by decide) rfl (pa_cons (pv 0) pa_nil))) (blkOk_by (N := N_heard_begins) (sc := defScope s_heard_begins) (by decide +kernel)) (fun _ _ _ _ _ => (pg_tupK (K := K) (n := 4) rfl rfl (pgs_cons (pg_name (i := 1) sc_heard_begins.nd rfl (.inl rfl)) (pgs_cons (pg_name (i := 2) sc_heard_begins.nd rfl (.inl rfl)) (pgs_cons (pg_name (i := 3) sc_heard_begins.nd rfl (.inl rfl)) (pgs_cons (pg_name (i := 4) sc_heard_begins.nd rfl (.inl rfl)) pgs_nil)))))) (fun _ _ _ _ _ => pts_nil) (fun _ _ _ _ _ => (pv 1)) (fun _ _ _ _ _ => (pe_tup (pa_cons (pv 2) (pa_cons (pv 3) pa_nil))))))), ?_⟩
    refine ⟨_, rfl, p, m, rfl, W, fun L H1 s1 nL ⟨xs, hL, R⟩ => ⟨L, rfl, ⟨_, .inl (.inl hL)⟩, fun D nD => ?_⟩⟩
    have lx : xs.length = (hs m.wd).length := by rw [R.len, List.length_map]
    refine dc_walk (walk_list (K := K) (a := L) (xs := xs)) (fun i H2 => Same H1 H2 ∧ ∃ kvs, H2 D = some (.dK kvs) ∧ kvs.length ≤ i ∧ HdK H2 kvs (hkOf ((hs m.wd).take i))) ⟨same_upd nD, [], upd_same, Nat.le_refl _, fun z => rfl⟩ (fun i H2 _ h => .inl (.inl (h.1 _ _ hL))) ?_ ?_
    · rintro i v H2' H2 hi ⟨s2, kvs, d2, n2, k2⟩ ⟨rfl, hv⟩
      obtain ⟨h, eh⟩ : ∃ h, (hs m.wd)[i]? = some h := ⟨_, List.getElem?_eq_getElem (by omega)⟩
      obtain ⟨t, rfl, ht⟩ := rows_at R hv eh
      refine ⟨t, hRow h, rfl, .inl (.inl (s2 _ _ ht)), rfl, _, _, rfl, _, _, rfl, _, _, rfl, _, _, rfl, rfl, rfl, yes_i (iteT ⟨_, rfl, _, rfl, _, rfl, (by show 2 ≤ sizeLine; decide), fun u nu => ?_⟩)⟩
      have su := same_upd (o := .tup [.str h.2.1, .int h.2.2.1]) nu
      have d3 := su _ _ d2
      refine ⟨kvs, kS h.1, rfl, d3, small1000 (by omega), same_put (s2.trans su) nD, _, upd_same, ?_, ?_⟩
      · have := length_putK kvs (kS h.1) (.ref u)
        omega
      · have et : hkOf ((hs m.wd).take (i + 1)) = hkS (hkOf ((hs m.wd).take i)) h := by
          unfold hkOf
          rw [List.take_add_one, eh, List.foldl_append]
          rfl
        rw [et]
        have kk : Kt (upd H2 u (.tup [.str h.2.1, .int h.2.2.1])) (upd (upd H2 u (.tup [.str h.2.1, .int h.2.2.1])) D (.dK (putK kvs (kS h.1) (.ref u)))) := Kt.upd fun zs z => by
          rw [d3] at z
          cases z
        exact ((k2.keep (Kt.of su)).put upd_same).keep kk
    · rintro H2 ⟨s2, kvs, d2, n2, k2⟩
      rw [lx, List.take_length] at k2
      exact q D H2 (s1.trans s2) (s1.free nD) ⟨kvs, d2, k2⟩
/-- the late waits -/
def lateF (h : Str × Str × Int × Int) : Ft := ⟨true, h.1, h.1, -h.2.2.2⟩
def sp_lates (K : PySem.W.Frag) : Sp := fun vs H Q _ => ∃ (p : Addr) (m : Md), vs = [.ref p] ∧ WebAt (CW K) H p m ∧ ∀ (D : Addr) (H' : Hp), Same H H' → H D = none → RowsAt H' D (((hs m.wd).map lateF).map Ft.row) → Q (.ref D) H'
theorem cal_late_waits (T : Tp K mg) : Cal P w K mg base 6 "late_waits" (sp_lates K) := by
  obtain ⟨fd, F⟩ := f_late_waits T
  refine cal_of F (g_late_waits T) (b_late_waits F) sc_late_waits (fun vs H Q E h => ?_) (fun cdv A outer s H vs Q E hr h => ?_)
  · obtain ⟨p, m, rfl, _⟩ := h
    rfl
  · obtain ⟨p, m, rfl, W, q⟩ := h
    have hlen := W.len
    have hl := hs_len m.wd
    refine ⟨_, (pss_one (ps_ret (pe_lc (own := [("end", 1), ("begin", 2), ("first", 3), ("last", 4)]) (tt := tYes) rfl sc_late_waits.nd (pi_list (C8.pe_c (cal_heard_spans T) hr (by decide) rfl (pa_cons (pv 0) pa_nil))) (blkOk_by (N := N_late_waits) (sc := defScope s_late_waits) (by decide +kernel)) (fun _ _ _ _ _ => (pg_tupK (K := K) (n := 4) rfl rfl (pgs_cons (pg_name (i := 1) sc_late_waits.nd rfl (.inl rfl)) (pgs_cons (pg_name (i := 2) sc_late_waits.nd rfl (.inl rfl)) (pgs_cons (pg_name (i := 3) sc_late_waits.nd rfl (.inl rfl)) (pgs_cons (pg_name (i := 4) sc_late_waits.nd rfl (.inl rfl)) pgs_nil)))))) (fun _ _ _ _ _ => pts_nil) (fun _ _ _ _ _ => (pe_tup (pa_cons (C8.pe_gc (by rfl) (c_UNTIL T)) (pa_cons (pv 1) (pa_cons (pv 1) (pa_cons (pe_un un_neg (pv 4)) pa_nil))))))))), ?_⟩
    refine ⟨_, rfl, p, m, rfl, W, fun L H1 s1 nL ⟨xs, hL, R⟩ => ⟨L, rfl, ⟨_, .inl (.inl hL)⟩, fun D nD => ?_⟩⟩
    refine lc_pure (hs m.wd) (walk_listN (by rw [R.len, List.length_map])) (fun x => some (lateF x)) (SR Ft.row) sr_k nD (by omega) (fun H s => .inl (.inl (s _ _ hL))) ?_ ?_
    · rintro i h v H2 _ eh s2 ⟨rfl, hv⟩ Good Bad kt kf
      obtain ⟨t, rfl, ht⟩ := rows_at R hv eh
      refine ⟨t, hRow h, rfl, .inl (.inl (s2 _ _ ht)), rfl, _, _, rfl, _, _, rfl, _, _, rfl, _, _, rfl, rfl, rfl, yes_i (iteT ⟨_, rfl, _, rfl, _, rfl, _, rfl, (by show 4 ≤ sizeLine; decide), fun u nu => ?_⟩)⟩
      exact kt _ _ _ rfl (same_upd nu) ⟨u, rfl, upd_same⟩
    · intro H2 acc s2 d2 p2
      rw [show ((hs m.wd).filterMap fun x => some (lateF x)) = (hs m.wd).map lateF from List.filterMap_eq_map ▸ rfl] at p2
      exact q D H2 (s1.trans s2) (s1.free nD) ⟨acc, d2, paired_rows p2⟩
end
end Tw

set_option maxHeartbeats 4000000
/-! values as data: lists of tuples of plain values compared -/
namespace Tw
open PySem PySem.Spec PyProof.Rows L2
def pd : V → PyData
  | .bl b => .bool b
  | .int i => .int i
  | .str z => .str z
  | _ => .none
/-- a plain value that can be laid -/
def okV : V → Bool
  | .non => true
  | .bl _ => true
  | .int _ => true
  | .str z => PyData.canLay0 (.str z)
  | _ => false
theorem dp_ok {K : PySem.W.Frag} {H : Hp} {v : V} (h : okV v = true) : Dp K H v (pd v) := by
  cases v with
  | non => exact .non
  | bl b => exact .bl b
  | int i => exact .int i
  | str z => exact .str z
  | byt b => cases h
  | flt b => cases h
  | ref b => cases h
  | ty b => cases h
theorem can_ok {v : V} (h : okV v = true) : (pd v).canLay0 = true := by
  cases v with
  | non => rfl
  | bl b => rfl
  | int i => rfl
  | str z => exact h
  | byt b => cases h
  | flt b => cases h
  | ref b => cases h
  | ty b => cases h
theorem depth_pd (v : V) : (pd v).depth = 0 := by
  cases v <;> rfl
theorem dp_all {K : PySem.W.Frag} {H : Hp} : ∀ {r : List V}, r.all okV = true → DpAll K H r (r.map pd)
  | [], _ => .nil
  | v :: r, h => by
    rw [List.all_cons, Bool.and_eq_true] at h
    exact .cons (dp_ok h.1) (dp_all h.2)
theorem can_all : ∀ {r : List V}, r.all okV = true → PyData.canLayAll0 (r.map pd) = true
  | [], _ => rfl
  | v :: r, h => by
    rw [List.all_cons, Bool.and_eq_true] at h
    show (PyData.canLay0 (pd v) && PyData.canLayAll0 (r.map pd)) = true
    rw [can_ok h.1, can_all h.2]
    rfl
theorem depth_all : ∀ (r : List V), PyData.depthAll (r.map pd) = 0
  | [] => rfl
  | v :: r => by
    show max (PyData.depth (pd v)) (PyData.depthAll (r.map pd)) = 0
    rw [depth_pd, depth_all r]
    rfl
def pdR (r : List V) : PyData := .tuple (r.map pd)
theorem dp_rows {K : PySem.W.Frag} {H : Hp} : ∀ {xs : List V} {rs : List (List V)}, Rows H xs rs → (∀ r ∈ rs, r.all okV = true) → DpAll K H xs (rs.map pdR)
  | _, _, .nil, _ => .nil
  | _, _, .cons ⟨t, e, ht⟩ q, h => by
    subst e
    exact .cons (.tup (.inl (.inl ht)) (dp_all (h _ List.mem_cons_self))) (dp_rows q fun r hr => h r (List.mem_cons_of_mem _ hr))
theorem can_rows : ∀ {rs : List (List V)}, (∀ r ∈ rs, r.all okV = true) → PyData.canLayAll0 (rs.map pdR) = true
  | [], _ => rfl
  | r :: rs, h => by
    show (PyData.canLayAll0 (r.map pd) && PyData.canLayAll0 (rs.map pdR)) = true
    rw [can_all (h _ List.mem_cons_self), can_rows fun r hr => h r (List.mem_cons_of_mem _ hr)]
    rfl
theorem depth_rows : ∀ (rs : List (List V)), PyData.depthAll (rs.map pdR) ≤ 1
  | [] => Nat.zero_le _
  | r :: rs => by
    show max (PyData.depthAll (r.map pd) + 1) (PyData.depthAll (rs.map pdR)) ≤ 1
    rw [depth_all]
    exact Nat.max_le.mpr ⟨Nat.le_refl _, depth_rows rs⟩
theorem shaped_rows {rs : List (List V)} (h : ∀ r ∈ rs, r.all okV = true) : SeqAt.shaped (.list (rs.map pdR)) = true := by
  unfold SeqAt.shaped
  rw [Bool.and_eq_true]
  refine ⟨can_rows h, decide_eq_true ?_⟩
  show PyData.depthAll (rs.map pdR) + 1 ≤ 64
  have := depth_rows rs
  omega
/-- rows != [] -/
theorem ne_empty {K : PySem.W.Frag} {H : Hp} {a b : Addr} {xs : List V} {rs : List (List V)} {Q : VK} (ha : H a = some (.lst xs)) (hb : H b = some (.lst [])) (R : Rows H xs rs) (h : ∀ r ∈ rs, r.all okV = true) (q : Q (.bl (!rs.isEmpty)) H) : rNeD K (.ref a) (.ref b) H Q := by
  refine ⟨.list (rs.map pdR), .list [], .lst (.inl (.inl ha)) (dp_rows R h), .lst (.inl (.inl hb)) .nil, shaped_rows h, by decide, ?_⟩
  cases rs with
  | nil => exact q
  | cons r rs => exact q
end Tw

set_option maxHeartbeats 4000000
namespace Tw
open PySem PySem.Spec PyProof.Rows L2
/-! papers.py: made rows of a good form -/
inductive Rw where
  | told (x y : Str) (n : Int)
  | late (k : Str)
  | pr (z : Str) (i j : Nat)
  | sg (z : Str) (i : Nat)
def Rw.row : Rw → List V
  | .told x y n => [.str "told", .str x, .str y, .int n]
  | .late k => [.str "late", .str k]
  | .pr z i j => [.str z, .int (i : Nat), .int (j : Nat)]
  | .sg z i => [.str z, .int (i : Nat)]
def Rw.wd : Rw → Str
  | .told _ _ _ => "told"
  | .late _ => "late"
  | .pr z _ _ => z
  | .sg z _ => z
/-- the words are those of the rules -/
def Rw.ok : Rw → Prop
  | .told _ _ _ => True
  | .late _ => True
  | .pr z _ _ => z = "along" ∨ z = "wait"
  | .sg z _ => z = "sure" ∨ z = "soon" ∨ z = "ahead"
theorem Rw.first (r : Rw) : r.row[0]? = some (.str r.wd) := by
  cases r <;> rfl
theorem Rw.not_told {r : Rw} (ok : r.ok) (h : ∀ x y n, r ≠ .told x y n) : ¬ r.wd = "told" := fun e => by
  cases r with
  | told x y n => exact h x y n rfl
  | late k => exact absurd (show ("late" : Str) = "told" from e) (by decide +kernel)
  | pr z i j =>
    have e : z = "told" := e
    rcases ok with h | h
    · exact absurd (h.symm.trans e) (by decide +kernel)
    · exact absurd (h.symm.trans e) (by decide +kernel)
  | sg z i =>
    have e : z = "told" := e
    rcases ok with h | h | h
    · exact absurd (h.symm.trans e) (by decide +kernel)
    · exact absurd (h.symm.trans e) (by decide +kernel)
    · exact absurd (h.symm.trans e) (by decide +kernel)
theorem shaped_row {r : List V} (h : r.all okV = true) : SeqAt.shaped (pdR r) = true := by
  unfold SeqAt.shaped
  rw [Bool.and_eq_true]
  refine ⟨can_all h, decide_eq_true ?_⟩
  show PyData.depthAll (r.map pd) + 1 ≤ 64
  rw [depth_all]
  decide
theorem any_row {rs : List (List V)} {r : List V} (h : r.all okV = true) (hin : r ∈ rs) : ((rs.map pdR).any fun z => PyData.eqv z (pdR r)) = true :=
  List.any_eq_true.mpr ⟨pdR r, List.mem_map.mpr ⟨r, hin, rfl⟩, PySem.SeqAt.eqv_refl (pdR r) (can_all h)⟩
section
variable {P : Program} {w : World} {K : PySem.W.Frag} {mg : Str → Option Value} {base : Heap}
/-! ### told_fact -/
def sp_told : Sp := fun vs H Q _ => ∃ (L t : Addr) (rs : List (List V)) (r : Rw), vs = [.ref L, .ref t] ∧ RowsAt H L rs ∧ (∀ q ∈ rs, q.all okV = true) ∧ H t = some (.tup r.row) ∧ r.ok ∧
  (∀ x y n, r = .told x y n → [.str x, .str y, .int n] ∈ rs ∧ ∀ (u : Addr) (H' : Hp), Same H H' → H' u = some (.tup (Ft.row ⟨false, x, y, n⟩)) → Q (.ref u) H') ∧ ((∀ x y n, r ≠ .told x y n) → Q .non H)
theorem cal_told_fact (T : Tp K mg) : Cal P w K mg base 2 "told_fact" sp_told := by
  obtain ⟨fd, F⟩ := f_told_fact T
  refine cal_of F (g_told_fact T) (b_told_fact F) sc_told_fact (fun vs H Q E h => ?_) (fun cdv A outer s H vs Q E hr h => ?_)
  · obtain ⟨L, t, rs, r, rfl, _⟩ := h
    rfl
  · obtain ⟨L, t, rs, r, rfl, ⟨xs, hL, R⟩, okr, ht, ok, q1, q2⟩ := h
    have hu64 := hr.units
    have hu65 : (cxOf CX0 P w K mg base N_told_fact "told_fact" (defScope s_told_fact) (He.ga K "told_fact") cdv A outer s H E).nox.A.units + 65 < cLine := by
      have h := hr.in1.units
      exact h
    have S : SqT K H t r.row := .inl (.inl ht)
    refine ⟨_, (pss_cons (ps_if (PW.pt (pw_or (pt_cmpR op_ne (pe_ix ix_tup (pv 1) pe_int (fun _ _ => rfl)) pe_str (nomark _)) (pw_or1 (pt_not (pt_val (C8.pe_c (cal_is_number T) hr (by decide) rfl (pa_cons (pe_ix ix_tup (pv 1) (pe_un un_neg pe_int) (fun _ _ => rfl)) pa_nil))))))) (pss_one (ps_ret pe_non)) pss_nil)
      (pss_cons (ps_if (PW.pt (pw_or (pt_not (pt_val (pe_callB (cr_all rfl) (by rfl) (z_all T) bb_all (pa_cons (pe_lc (own := [("name", 2)]) (g := gName 2) (tt := tYes) rfl sc_told_fact.nd (pi_tup (pe_slice sl_tup (pv 1) po_none (po_some (pe_un un_neg pe_int)))) (blkOk_by (N := N_told_fact) (sc := defScope s_told_fact) (by decide +kernel)) (fun _ _ _ _ _ => (pg_name (i := 2) sc_told_fact.nd rfl (.inl rfl))) (fun _ _ _ _ _ => pts_nil) (fun _ _ _ _ _ => (pe_callB (call_isKK (K := K) rfl) (by rfl) (z_isinstance T) bb_isinstance (pa_cons (pv 2) (pa_cons (pe_bltn (v := .ty "str") (by rfl) (z_str T) bb_str rfl) pa_nil))))) pa_nil)))) (pw_or1 (pt_cmpR (op_notInD hu65) (pe_slice sl_tup (pv 1) (po_some pe_int) po_none) (pv 0) (by rfl))))) (pss_one (ps_ret pe_non)) pss_nil)
      (pss_one (ps_ret (pe_op op_catU (pe_tup (pa_cons (C8.pe_gc (by rfl) (c_MOST T)) pa_nil)) (pe_slice sl_tup (pv 1) (po_some pe_int) po_none)))))), ?_⟩
    refine ⟨_, rfl, t, _, 0, _, rfl, rfl, S, atI_nat (j := 0) r.first, rfl, _, rfl, ?_⟩
    by_cases c : ∃ x y n, r = .told x y n
    · obtain ⟨x, y, n, rfl⟩ := c
      obtain ⟨hin, q1⟩ := q1 x y n rfl
      rw [decide_eq_true (show V.str (Rw.told x y n).wd = V.str "told" from rfl)]
      refine iteF ⟨_, rfl, _, rfl, t, _, _, .int n, rfl, rfl, S, rfl, .int n, "int", rfl, rfl, _, rfl, iteF ?_⟩
      refine ⟨_, rfl, _, rfl, _, rfl, t, _, rfl, S, (by rintro ⟨_, e⟩; cases e), fun k nk => ⟨k, rfl, ⟨_, .inl (.inl upd_same)⟩, fun D nD => ?_⟩⟩
      have sk := same_upd (o := .tup [.str "told", .str x, .str y]) nk
      have hk : upd H k (.tup [.str "told", .str x, .str y]) k = some (.tup [.str "told", .str x, .str y]) := upd_same
      refine lc_tup (K := K) (a := k) (xs := [.str "told", .str x, .str y]) (fun i H1 => Same (upd H k (.tup [.str "told", .str x, .str y])) H1 ∧ H1 D = some (.lst ((List.replicate i true).map V.bl))) ⟨same_upd nD, upd_same⟩ (fun i H1 _ h => .inl (.inl (h.1 _ _ hk))) ?_ ?_
      · rintro i v H1 hv ⟨s1, d1⟩
        have hi : i < 3 := (List.getElem?_eq_some_iff.mp hv).1
        obtain ⟨z, rfl⟩ : ∃ z : Str, v = .str z := by
          have hm := List.mem_of_getElem? hv
          simp only [List.mem_cons, List.not_mem_nil, or_false] at hm
          rcases hm with h | h | h <;> exact ⟨_, h⟩
        refine ⟨rfl, yes_i (iteT ⟨_, rfl, _, "str", "str", rfl, .base (.str _), by decide, by decide, _, d1, ?_, same_put s1 nD, ?_⟩)⟩
        · rw [List.length_map, List.length_replicate]
          exact small1000 (by omega)
        · rw [upd_same, List.replicate_succ', List.map_append]
          rfl
      · rintro H1 ⟨s1, d1⟩
        have sA := sk.trans s1
        refine ⟨D, _, rfl, .inl (.inl d1), _, rfl, iteF ?_⟩
        refine ⟨_, rfl, 1, rfl, t, _, rfl, .inl (.inl (sA _ _ ht)), (by rintro ⟨e, _⟩; cases e), fun k2 nk2 => ⟨_, rfl, ?_⟩⟩
        have sB := sA.trans (same_upd (o := .tup [.str x, .str y, .int n]) nk2)
        have okx := okr _ hin
        refine ⟨pdR [.str x, .str y, .int n], rs.map pdR, .tup (.inl (.inl upd_same)) (dp_all okx), .lst (.inl (.inl (sB _ _ hL))) (dp_rows (R.keep (Kt.of sB)) okr), shaped_row okx, shaped_rows okr, _, rfl, ?_⟩
        rw [any_row okx hin]
        refine iteF ⟨by show 1 ≤ sizeLine; decide, fun a na => ?_⟩
        have sC := sB.trans (same_upd (o := .tup [.str "most"]) na)
        refine ⟨_, rfl, 1, rfl, t, _, rfl, .inl (.inl (sC _ _ ht)), (by rintro ⟨e, _⟩; cases e), fun b nb => ?_⟩
        have sb := same_upd (o := .tup [.str x, .str y, .int n]) nb
        exact ⟨a, b, _, _, rfl, rfl, sb _ _ upd_same, upd_same, by show 1 + 3 ≤ sizeLine; decide, fun u H' s' hu => q1 u H' ((sC.trans sb).trans s') hu⟩
    · rw [decide_eq_false (show ¬ V.str r.wd = V.str "told" from fun z => Rw.not_told ok (fun x y n e => c ⟨x, y, n, e⟩) (V.str.inj z))]
      exact iteT (q2 fun x y n e => c ⟨x, y, n, e⟩)
/-! ### late_fact -/
/-- a dict from ends to their late waits -/
def LtK (H : Hp) (kvs : List (Key × V)) (f : Str → Option Ft) : Prop := ∀ z, match f z with
  | none => valV kvs (kS z) = none
  | some r => ∃ t, valV kvs (kS z) = some (.ref t) ∧ H t = some (.tup r.row)
def LtD (H : Hp) (d : Addr) (f : Str → Option Ft) : Prop := ∃ kvs, H d = some (.dK kvs) ∧ LtK H kvs f
theorem LtK.keep {H H' : Hp} {kvs : List (Key × V)} {f : Str → Option Ft} (h : LtK H kvs f) (k : Kt H H') : LtK H' kvs f := fun z => by
  have hz := h z
  cases e : f z with
  | none =>
    rw [e] at hz
    exact hz
  | some r =>
    rw [e] at hz
    obtain ⟨t, h1, h2⟩ := hz
    exact ⟨t, h1, k _ _ h2⟩
theorem LtD.same {H H' : Hp} {d : Addr} {f : Str → Option Ft} (h : LtD H d f) (s : Same H H') : LtD H' d f := by
  obtain ⟨kvs, h1, h2⟩ := h
  exact ⟨kvs, s _ _ h1, h2.keep (Kt.of s)⟩
def sp_one_ofD : Sp := fun vs H Q _ => ∃ (z : Str) (p : Addr) (kvs : List (Key × V)), vs = [.str z, .ref p] ∧ H p = some (.dK kvs) ∧ Q (.bl (valV kvs (kS z)).isSome) H
theorem cal_one_ofD (T : Tp K mg) : Cal P w K mg base 1 "is_one_of" sp_one_ofD := by
  obtain ⟨fd, F⟩ := f_is_one_of T
  refine cal_of F (g_is_one_of T) (b_is_one_of F) sc_is_one_of (fun vs H Q E h => ?_) (fun cdv A outer s H vs Q E hr h => ?_)
  · obtain ⟨z, p, kvs, rfl, _⟩ := h
    rfl
  · obtain ⟨z, p, kvs, rfl, hp, q⟩ := h
    have hu := hu_of hr
    refine ⟨_, (pss_one (ps_ret (pe_and (pe_callB call_isK (by rfl) (z_isinstance T) bb_isinstance (pa_cons (pv 0) (pa_cons (pe_bltn (v := .ty "str") (by rfl) (z_str T) bb_str rfl) pa_nil))) (pe_one (pe_cmp (pc_din hu (pv 0) (pv 1)) (by rfl)))))), ?_⟩
    exact ⟨_, rfl, _, "str", "str", rfl, .base (.str _), by decide, by decide, _, rfl, iteT ⟨_, rfl, _, rfl, p, _, rfl, DGet.k (k := kS z) hp, q⟩⟩
theorem Rw.not_late {r : Rw} (ok : r.ok) (h : ∀ k, r ≠ .late k) : ¬ r.wd = "late" := fun e => by
  cases r with
  | late k => exact h k rfl
  | told x y n => exact absurd (show ("told" : Str) = "late" from e) (by decide +kernel)
  | pr z i j =>
    have e : z = "late" := e
    rcases ok with h | h
    · exact absurd (h.symm.trans e) (by decide +kernel)
    · exact absurd (h.symm.trans e) (by decide +kernel)
  | sg z i =>
    have e : z = "late" := e
    rcases ok with h | h | h
    · exact absurd (h.symm.trans e) (by decide +kernel)
    · exact absurd (h.symm.trans e) (by decide +kernel)
    · exact absurd (h.symm.trans e) (by decide +kernel)
def sp_late : Sp := fun vs H Q _ => ∃ (d t : Addr) (f : Str → Option Ft) (r : Rw), vs = [.ref d, .ref t] ∧ LtD H d f ∧ H t = some (.tup r.row) ∧ r.ok ∧ (∀ k, r = .late k → ∃ x, f k = some x ∧ ∀ u, H u = some (.tup x.row) → Q (.ref u) H) ∧ ((∀ k, r ≠ .late k) → Q .non H)
theorem cal_late_fact (T : Tp K mg) : Cal P w K mg base 2 "late_fact" sp_late := by
  obtain ⟨fd, F⟩ := f_late_fact T
  refine cal_of F (g_late_fact T) (b_late_fact F) sc_late_fact (fun vs H Q E h => ?_) (fun cdv A outer s H vs Q E hr h => ?_)
  · obtain ⟨d, t, f, r, rfl, _⟩ := h
    rfl
  · obtain ⟨d, t, f, r, rfl, ⟨kvs, hd, lt⟩, ht, ok, q1, q2⟩ := h
    have hu := hu_of hr
    have S : SqT K H t r.row := .inl (.inl ht)
    refine ⟨_, (pss_cons (ps_if (PW.pt (pw_or (pt_cmpR op_ne (pe_ix ix_tup (pv 1) pe_int (fun _ _ => rfl)) pe_str (nomark _)) (pw_or (pt_cmpR op_ne (pe_callB call_len_seq (by rfl) (z_len T) bb_len (pa_cons (pv 1) pa_nil)) pe_int (nomark _)) (pw_or1 (pt_not (pt_val (C8.pe_c (cal_one_ofD T) hr (by decide) rfl (pa_cons (pe_ix ix_tup (pv 1) pe_int (fun _ _ => rfl)) (pa_cons (pv 0) pa_nil))))))))) (pss_one (ps_ret pe_non)) pss_nil)
      (pss_one (ps_ret (pe_dget hu (pv 0) (pe_ix ix_tup (pv 1) pe_int (fun _ _ => rfl)) (fun _ _ => rfl))))), ?_⟩
    refine ⟨_, rfl, t, _, 0, _, rfl, rfl, S, atI_nat (j := 0) r.first, rfl, _, rfl, ?_⟩
    by_cases c : ∃ k, r = .late k
    · obtain ⟨k, rfl⟩ := c
      obtain ⟨x, ex, q1⟩ := q1 k rfl
      have hz := lt k
      rw [ex] at hz
      obtain ⟨u, hu1, hu2⟩ := hz
      rw [decide_eq_true (show V.str (Rw.late k).wd = V.str "late" from rfl)]
      refine iteF ⟨_, rfl, t, _, rfl, .inr S, rfl, _, rfl, iteF ⟨_, rfl, t, _, 1, .str k, rfl, rfl, S, atI_nat (j := 1) rfl, _, rfl, k, d, kvs, rfl, hd, _, rfl, ?_⟩⟩
      rw [hu1]
      exact iteF ⟨_, rfl, _, rfl, t, _, 1, .str k, rfl, rfl, S, atI_nat (j := 1) rfl, d, _, rfl, .inl ⟨kvs, kS k, .inl hd, rfl, hu1.symm⟩, q1 u hu2⟩
    · rw [decide_eq_false (show ¬ V.str r.wd = V.str "late" from fun z => Rw.not_late ok (fun k e => c ⟨k, e⟩) (V.str.inj z))]
      exact iteT (q2 fun k e => c ⟨k, e⟩)
/-! ### made_fact -/
def rPr (z : Str) (o p : Ft) : Option Ft := if z = "along" then rAlong o p else rWait o p
def rSg (z : Str) (f : Hk) (o : Ft) : Option Ft := if z = "sure" then rSure f o else if z = "soon" then rSoon f o else rAhead f o
/-- the table's def at a word -/
def one (f g : Addr) (sp : Sp) : Option Sp := if f = g then some sp else none
theorem one_at {f : Addr} {sp : Sp} : one f f sp = some sp := if_pos rfl
theorem one_of {f g : Addr} {sp sp' : Sp} (e : one f g sp = some sp') : f = g ∧ sp = sp' := by
  unfold one at e
  by_cases c : f = g
  · rw [if_pos c] at e
    exact ⟨c, Option.some.inj e⟩
  · rw [if_neg c] at e
    cases e
def SP (K : PySem.W.Frag) (z : Str) (f : Addr) : Option Sp := if z = "along" then one f (He.ga K "along") (sp_pair rAlong) else one f (He.ga K "wait") (sp_pair rWait)
def SS (K : PySem.W.Frag) (z : Str) (f : Addr) : Option Sp := if z = "sure" then one f (He.ga K "sure") (sp_single okSure rSure) else if z = "soon" then one f (He.ga K "soon") (sp_single okAll rSoon) else one f (He.ga K "ahead") (sp_single okAll rAhead)
theorem held_of {x : Str} {k : Nat} {sp : Sp} {f : Addr} (c : Cal P w K mg base k x sp) (g : mg x = some (.ref f)) : Held P w K mg base k f sp := by
  obtain ⟨f', fd, ps, ds, F, at_, kp, b, dv⟩ := c.ex
  rw [g] at at_
  cases at_
  cases dv
  exact ⟨fd, ps, F, kp, b⟩
theorem heldP (T : Tp K mg) (z : Str) : ∀ f sp, SP K z f = some sp → Held P w K mg base 1 f sp := fun f sp e => by
  unfold SP at e
  by_cases c1 : z = "along"
  · rw [if_pos c1] at e
    obtain ⟨rfl, rfl⟩ := one_of e
    exact held_of (cal_along T) (g_along T)
  · rw [if_neg c1] at e
    obtain ⟨rfl, rfl⟩ := one_of e
    exact held_of (cal_wait T) (g_wait T)
theorem heldS (T : Tp K mg) (z : Str) : ∀ f sp, SS K z f = some sp → Held P w K mg base 1 f sp := fun f sp e => by
  unfold SS at e
  by_cases c1 : z = "sure"
  · rw [if_pos c1] at e
    obtain ⟨rfl, rfl⟩ := one_of e
    exact held_of (cal_sure T) (g_sure T)
  · rw [if_neg c1] at e
    by_cases c2 : z = "soon"
    · rw [if_pos c2] at e
      obtain ⟨rfl, rfl⟩ := one_of e
      exact held_of (cal_soon T) (g_soon T)
    · rw [if_neg c2] at e
      obtain ⟨rfl, rfl⟩ := one_of e
      exact held_of (cal_ahead T) (g_ahead T)
/-- None, or a fact that stands by now -/
def MadeS (r : Option Ft) (H : Hp) (Q : VK) : Prop := (r = none → ∀ H', Same H H' → Q .non H') ∧ ∀ f, r = some f → ∀ u H', Same H H' → H' u = some (.tup f.row) → Q (.ref u) H'
theorem MadeS.at {r : Option Ft} {H H' : Hp} {Q : VK} (h : MadeS r H Q) (s : Same H H') : MadeF r H' Q := ⟨fun e => h.1 e H' s, fun f e t nt => h.2 f e t _ (s.trans (same_upd nt)) upd_same⟩
abbrev Tbs (w : World) (K : PySem.W.Frag) : Prop := ∀ t ∈ tb, ∃ es n, KDict K w (t.1 K) es n
def sp_madeP : Sp := fun vs H Q _ => ∃ (d l t : Addr) (fs : List Ft) (xs : List V) (z : Str) (i j : Nat) (o p : Ft), vs = [.ref d, .ref l, .ref t] ∧ H l = some (.lst xs) ∧ Rows H xs (fs.map Ft.row) ∧ fs.length ≤ 1000 ∧ H t = some (.tup (Rw.row (.pr z i j))) ∧ (z = "along" ∨ z = "wait") ∧ fs[i]? = some o ∧ fs[j]? = some p ∧ MadeS (rPr z o p) H Q
def sp_madeS : Sp := fun vs H Q _ => ∃ (d l t : Addr) (g : Hk) (fs : List Ft) (xs : List V) (z : Str) (i : Nat) (o : Ft), vs = [.ref d, .ref l, .ref t] ∧ HdD H d g ∧ H l = some (.lst xs) ∧ Rows H xs (fs.map Ft.row) ∧ fs.length ≤ 1000 ∧ H t = some (.tup (Rw.row (.sg z i))) ∧ (z = "sure" ∨ z = "soon" ∨ z = "ahead") ∧ fs[i]? = some o ∧ okSure g o ∧ MadeS (rSg z g o) H Q
def sp_made : Sp := fun vs H Q E => sp_madeP vs H Q E ∨ sp_madeS vs H Q E
theorem cal_made_fact (T : Tp K mg) (TB : Tbs w K) : Cal P w K mg base 3 "made_fact" sp_made := by
  obtain ⟨fd, F⟩ := f_made_fact T
  refine cal_of F (g_made_fact T) (b_made_fact F) sc_made_fact (fun vs H Q E h => ?_) (fun cdv A outer s H vs Q E hr h => ?_)
  · rcases h with h | h
    · obtain ⟨d, l, t, fs, xs, z, i, j, o, p, rfl, _⟩ := h
      rfl
    · obtain ⟨d, l, t, g, fs, xs, z, i, o, rfl, _⟩ := h
      rfl
  · rcases h with h | h
    · obtain ⟨d, l, t, fs, xs, z, i, j, o, p, rfl, hl, R, few, ht, hz, eo, ep, q⟩ := h
      obtain ⟨es1, n1, DP⟩ := TB _ List.mem_cons_self
      obtain ⟨es2, n2, DS⟩ := TB _ (List.mem_cons_of_mem _ List.mem_cons_self)
      have lx : xs.length = fs.length := by rw [R.len, List.length_map]
      have hi : i < fs.length := (List.getElem?_eq_some_iff.mp eo).1
      have hj : j < fs.length := (List.getElem?_eq_some_iff.mp ep).1
      obtain ⟨x1, e1⟩ : ∃ x, xs[i]? = some x := ⟨_, List.getElem?_eq_getElem (by omega)⟩
      obtain ⟨x2, e2⟩ : ∃ x, xs[j]? = some x := ⟨_, List.getElem?_eq_getElem (by omega)⟩
      obtain ⟨t1, rfl, ht1⟩ := rows_at R e1 eo
      obtain ⟨t2, rfl, ht2⟩ := rows_at R e2 ep
      have S : SqT K H t [.str z, .int (i : Nat), .int (j : Nat)] := .inl (.inl ht)
      refine ⟨_, (pss_cons (ps_set (i := 3) sc_made_fact.nd rfl (.inl rfl) (pe_ix ix_tup (pv 2) pe_int (fun _ _ => rfl)))
      (pss_cons (ps_if (pt_not (pt_val (pe_callB (cr_all rfl) (by rfl) (z_all T) bb_all (pa_cons (pe_lc (own := [("place", 7)]) (g := gName 7) (tt := tYes) rfl sc_made_fact.nd (pi_tup (pe_slice sl_tup (pv 2) (po_some pe_int) po_none)) (blkOk_by (N := N_made_fact) (sc := defScope s_made_fact) (by decide +kernel)) (fun _ _ _ _ _ => (pg_name (i := 7) sc_made_fact.nd rfl (.inl rfl))) (fun _ _ _ _ _ => pts_nil) (fun _ _ _ _ _ => (C8.pe_c (cal_iswh T) hr (by decide) rfl (pa_cons (pv 7) (pa_cons pe_int (pa_cons (pe_op op_sub (pe_callB (call_len_seqK (K := K) rfl) (by rfl) (z_len T) bb_len (pa_cons (pv 1) pa_nil)) pe_int) pa_nil)))))) pa_nil)))) (pss_one (ps_ret pe_non)) pss_nil)
      (pss_cons (ps_setLc (i := 4) (own := [("place", 7)]) (g := gName 7) (tt := tYes) rfl sc_made_fact.nd rfl rfl (sw_true rfl rfl rfl (by decide +kernel)) (pi_tup (pe_slice sl_tup (pv 2) (po_some pe_int) po_none)) (blkOk_by (N := N_made_fact) (sc := defScope s_made_fact) (by decide +kernel)) (fun _ _ _ _ _ => (pg_name (i := 7) sc_made_fact.nd rfl (.inl rfl))) (fun _ _ _ _ _ => pts_nil) (fun _ _ _ _ _ => (pe_ix (ix_listK (K := K) rfl) (pv 1) (pv 7) (fun _ _ => rfl))))
      (pss_cons (ps_if (PW.pt (pw_and (pt_cmpR (op_in_kd DP) (pv 3) (pe_glob (v := .ref (He.ga K "PAIR_RULES")) (by rfl) (g_PAIR_RULES T) rfl) (by rfl)) (pw_and1 (pt_cmpR op_eq (pe_callB call_len_seq (by rfl) (z_len T) bb_len (pa_cons (pv 4) pa_nil)) pe_int (nomark _))))) (pss_cons (ps_set (i := 5) sc_made_fact.nd rfl (.inl rfl) (pe_ix ix_kdict (pe_glob (v := .ref (He.ga K "PAIR_RULES")) (by rfl) (g_PAIR_RULES T) rfl) (pv 3) (fun _ _ => rfl)))
        (pss_one (ps_ret (pe_callA (i := 5) (heldP T z) (hr.mono (by decide)) rfl (.inl rfl) (pa_cons (pe_ix ix_list (pv 4) pe_int (fun _ _ => rfl)) (pa_cons (pe_ix ix_list (pv 4) pe_int (fun _ _ => rfl)) pa_nil)))))) pss_nil)
      (pss_cons (ps_if (PW.pt (pw_and (pt_cmpR (op_in_kd DS) (pv 3) (pe_glob (v := .ref (He.ga K "SINGLE_RULES")) (by rfl) (g_SINGLE_RULES T) rfl) (by rfl)) (pw_and1 (pt_cmpR op_eq (pe_callB call_len_seq (by rfl) (z_len T) bb_len (pa_cons (pv 4) pa_nil)) pe_int (nomark _))))) (pss_cons (ps_set (i := 6) sc_made_fact.nd rfl (.inl rfl) (pe_ix ix_kdict (pe_glob (v := .ref (He.ga K "SINGLE_RULES")) (by rfl) (g_SINGLE_RULES T) rfl) (pv 3) (fun _ _ => rfl)))
        (pss_one (ps_ret (pe_callA (i := 6) (heldS T z) (hr.mono (by decide)) rfl (.inl rfl) (pa_cons (pv 0) (pa_cons (pe_ix ix_list (pv 4) pe_int (fun _ _ => rfl)) pa_nil)))))) pss_nil)
      (pss_one (ps_ret pe_non))))))), ?_⟩
      refine ⟨_, rfl, t, _, 0, .str z, rfl, rfl, S, atI_nat (j := 0) rfl, ?_⟩
      refine ⟨_, rfl, 1, rfl, t, _, rfl, S, (by rintro ⟨e, _⟩; cases e), fun k nk => ⟨k, rfl, ⟨_, .inl (.inl upd_same)⟩, fun D nD => ?_⟩⟩
      have sk := same_upd (o := .tup [.int (i : Nat), .int (j : Nat)]) nk
      have hk : upd H k (.tup [.int (i : Nat), .int (j : Nat)]) k = some (.tup [.int (i : Nat), .int (j : Nat)]) := upd_same
      have plc : ∀ {n : Nat} {v : V}, ([.int (i : Nat), .int (j : Nat)] : List V)[n]? = some v → ∃ a : Nat, v = .int a ∧ a < fs.length := fun {n v} hv => by
        have hm := List.mem_of_getElem? hv
        simp only [List.mem_cons, List.not_mem_nil, or_false] at hm
        rcases hm with h | h
        · exact ⟨i, h, hi⟩
        · exact ⟨j, h, hj⟩
      refine lc_tup (K := K) (a := k) (xs := [.int (i : Nat), .int (j : Nat)]) (fun n H1 => Same (upd H k (.tup [.int (i : Nat), .int (j : Nat)])) H1 ∧ H1 D = some (.lst ((List.replicate n true).map V.bl))) ⟨same_upd nD, upd_same⟩ (fun n H1 _ h => .inl (.inl (h.1 _ _ hk))) ?_ ?_
      · rintro n v H1 hv ⟨s1, d1⟩
        have hn : n < 2 := (List.getElem?_eq_some_iff.mp hv).1
        obtain ⟨a, rfl, ha⟩ := plc hv
        have wt : whB 0 ((xs.length : Int) - 1) (.int (a : Nat)) = true := decide_eq_true ⟨by omega, by omega⟩
        refine ⟨rfl, yes_i (iteT ⟨_, rfl, _, rfl, l, xs, rfl, .inl (.inl (.inl (s1 _ _ (sk _ _ hl)))), _, 1, rfl, rfl, .int (a : Nat), 0, _, rfl, rfl, _, d1, ?_, same_put s1 nD, ?_⟩)⟩
        · rw [List.length_map, List.length_replicate]
          exact small1000 (by omega)
        · rw [upd_same, wt, List.replicate_succ', List.map_append]
          rfl
      · rintro H1 ⟨s1, d1⟩
        have sA := sk.trans s1
        refine ⟨D, _, rfl, .inl (.inl d1), _, rfl, iteF ?_⟩
        refine ⟨_, rfl, 1, rfl, t, _, rfl, .inl (.inl (sA _ _ ht)), (by rintro ⟨e, _⟩; cases e), fun k2 nk2 => ⟨k2, rfl, ⟨_, .inl (.inl upd_same)⟩, ?_⟩⟩
        rw [show cutV (Rw.row (.pr z i j)) (some 1) none = [.int (i : Nat), .int (j : Nat)] from rfl]
        refine fun D2 nD2 => ?_
        have sk2 := sA.trans (same_upd (o := .tup [.int (i : Nat), .int (j : Nat)]) nk2)
        have hk2 : upd H1 k2 (.tup [.int (i : Nat), .int (j : Nat)]) k2 = some (.tup [.int (i : Nat), .int (j : Nat)]) := upd_same
        generalize upd H1 k2 (.tup [.int (i : Nat), .int (j : Nat)]) = H2 at sk2 hk2 nD2 ⊢
        refine lc_tup (K := K) (a := k2) (xs := [.int (i : Nat), .int (j : Nat)]) (fun n H3 => Same H2 H3 ∧ H3 D2 = some (.lst (([.ref t1, .ref t2] : List V).take n))) ⟨same_upd nD2, upd_same⟩ (fun n H3 _ h => .inl (.inl (h.1 _ _ hk2))) ?_ ?_
        · rintro n v H3 hv ⟨s3, d3⟩
          have hl3 := s3 _ _ (sk2 _ _ hl)
          match n, hv, d3 with
          | 0, hv, d3 =>
            cases hv
            exact ⟨rfl, yes_i (iteT ⟨_, rfl, _, rfl, l, xs, (i : Int), .ref t1, rfl, rfl, .inl (.inl hl3), atI_nat (j := i) e1, _, d3, small1000 (by show 0 ≤ 1000; decide), same_put s3 nD2, by rw [upd_same]; rfl⟩)⟩
          | 1, hv, d3 =>
            cases hv
            exact ⟨rfl, yes_i (iteT ⟨_, rfl, _, rfl, l, xs, (j : Int), .ref t2, rfl, rfl, .inl (.inl hl3), atI_nat (j := j) e2, _, d3, small1000 (by show 1 ≤ 1000; decide), same_put s3 nD2, by rw [upd_same]; rfl⟩)⟩
          | n + 2, hv, _ => cases hv
        · rintro H3 ⟨s3, d3⟩
          have sB := sk2.trans s3
          have d3 : H3 D2 = some (.lst [.ref t1, .ref t2]) := d3
          have SD : SqL K H3 D2 [.ref t1, .ref t2] := .inl (.inl d3)
          rcases hz with rfl | rfl
          · refine ⟨_, rfl, _, _, rfl, rfl, nt_PAIR_RULES_along T, _, rfl, iteT ⟨_, rfl, D2, _, rfl, .inl SD, rfl, _, rfl, iteT ?_⟩⟩
            refine ⟨_, rfl, He.ga K "PAIR_RULES", _, .ref (He.ga K "along"), rfl, rfl, ⟨es1, n1, _, DP.at_, DP.lit, nt_PAIR_RULES_along T, rfl⟩, ?_⟩
            refine ⟨He.ga K "along", sp_pair rAlong, rfl, by unfold SP; rw [if_pos rfl]; exact one_at, _, rfl, D2, _, 0, .ref t1, rfl, rfl, SD, atI_nat (j := 0) rfl, _, rfl, D2, _, 1, .ref t2, rfl, rfl, SD, atI_nat (j := 1) rfl, t1, t2, o, p, rfl, sB _ _ ht1, sB _ _ ht2, ?_⟩
            have q' := q.at sB
            unfold rPr at q'
            rw [if_pos rfl] at q'
            exact q'
          · refine ⟨_, rfl, _, _, rfl, rfl, nt_PAIR_RULES_wait T, _, rfl, iteT ⟨_, rfl, D2, _, rfl, .inl SD, rfl, _, rfl, iteT ?_⟩⟩
            refine ⟨_, rfl, He.ga K "PAIR_RULES", _, .ref (He.ga K "wait"), rfl, rfl, ⟨es1, n1, _, DP.at_, DP.lit, nt_PAIR_RULES_wait T, rfl⟩, ?_⟩
            have nw : ¬ ("wait" : Str) = "along" := by decide +kernel
            refine ⟨He.ga K "wait", sp_pair rWait, rfl, by unfold SP; rw [if_neg nw]; exact one_at, _, rfl, D2, _, 0, .ref t1, rfl, rfl, SD, atI_nat (j := 0) rfl, _, rfl, D2, _, 1, .ref t2, rfl, rfl, SD, atI_nat (j := 1) rfl, t1, t2, o, p, rfl, sB _ _ ht1, sB _ _ ht2, ?_⟩
            have q' := q.at sB
            unfold rPr at q'
            rw [if_neg nw] at q'
            exact q'
    · obtain ⟨d, l, t, g, fs, xs, z, i, o, rfl, HD, hl, R, few, ht, hz, eo, ok, q⟩ := h
      obtain ⟨es1, n1, DP⟩ := TB _ List.mem_cons_self
      obtain ⟨es2, n2, DS⟩ := TB _ (List.mem_cons_of_mem _ List.mem_cons_self)
      have lx : xs.length = fs.length := by rw [R.len, List.length_map]
      have hi : i < fs.length := (List.getElem?_eq_some_iff.mp eo).1
      obtain ⟨x1, e1⟩ : ∃ x, xs[i]? = some x := ⟨_, List.getElem?_eq_getElem (by omega)⟩
      obtain ⟨t1, rfl, ht1⟩ := rows_at R e1 eo
      have S : SqT K H t [.str z, .int (i : Nat)] := .inl (.inl ht)
      refine ⟨_, (pss_cons (ps_set (i := 3) sc_made_fact.nd rfl (.inl rfl) (pe_ix ix_tup (pv 2) pe_int (fun _ _ => rfl)))
      (pss_cons (ps_if (pt_not (pt_val (pe_callB (cr_all rfl) (by rfl) (z_all T) bb_all (pa_cons (pe_lc (own := [("place", 7)]) (g := gName 7) (tt := tYes) rfl sc_made_fact.nd (pi_tup (pe_slice sl_tup (pv 2) (po_some pe_int) po_none)) (blkOk_by (N := N_made_fact) (sc := defScope s_made_fact) (by decide +kernel)) (fun _ _ _ _ _ => (pg_name (i := 7) sc_made_fact.nd rfl (.inl rfl))) (fun _ _ _ _ _ => pts_nil) (fun _ _ _ _ _ => (C8.pe_c (cal_iswh T) hr (by decide) rfl (pa_cons (pv 7) (pa_cons pe_int (pa_cons (pe_op op_sub (pe_callB (call_len_seqK (K := K) rfl) (by rfl) (z_len T) bb_len (pa_cons (pv 1) pa_nil)) pe_int) pa_nil)))))) pa_nil)))) (pss_one (ps_ret pe_non)) pss_nil)
      (pss_cons (ps_setLc (i := 4) (own := [("place", 7)]) (g := gName 7) (tt := tYes) rfl sc_made_fact.nd rfl rfl (sw_true rfl rfl rfl (by decide +kernel)) (pi_tup (pe_slice sl_tup (pv 2) (po_some pe_int) po_none)) (blkOk_by (N := N_made_fact) (sc := defScope s_made_fact) (by decide +kernel)) (fun _ _ _ _ _ => (pg_name (i := 7) sc_made_fact.nd rfl (.inl rfl))) (fun _ _ _ _ _ => pts_nil) (fun _ _ _ _ _ => (pe_ix (ix_listK (K := K) rfl) (pv 1) (pv 7) (fun _ _ => rfl))))
      (pss_cons (ps_if (PW.pt (pw_and (pt_cmpR (op_in_kd DP) (pv 3) (pe_glob (v := .ref (He.ga K "PAIR_RULES")) (by rfl) (g_PAIR_RULES T) rfl) (by rfl)) (pw_and1 (pt_cmpR op_eq (pe_callB call_len_seq (by rfl) (z_len T) bb_len (pa_cons (pv 4) pa_nil)) pe_int (nomark _))))) (pss_cons (ps_set (i := 5) sc_made_fact.nd rfl (.inl rfl) (pe_ix ix_kdict (pe_glob (v := .ref (He.ga K "PAIR_RULES")) (by rfl) (g_PAIR_RULES T) rfl) (pv 3) (fun _ _ => rfl)))
        (pss_one (ps_ret (pe_callA (i := 5) (heldP T z) (hr.mono (by decide)) rfl (.inl rfl) (pa_cons (pe_ix ix_list (pv 4) pe_int (fun _ _ => rfl)) (pa_cons (pe_ix ix_list (pv 4) pe_int (fun _ _ => rfl)) pa_nil)))))) pss_nil)
      (pss_cons (ps_if (PW.pt (pw_and (pt_cmpR (op_in_kd DS) (pv 3) (pe_glob (v := .ref (He.ga K "SINGLE_RULES")) (by rfl) (g_SINGLE_RULES T) rfl) (by rfl)) (pw_and1 (pt_cmpR op_eq (pe_callB call_len_seq (by rfl) (z_len T) bb_len (pa_cons (pv 4) pa_nil)) pe_int (nomark _))))) (pss_cons (ps_set (i := 6) sc_made_fact.nd rfl (.inl rfl) (pe_ix ix_kdict (pe_glob (v := .ref (He.ga K "SINGLE_RULES")) (by rfl) (g_SINGLE_RULES T) rfl) (pv 3) (fun _ _ => rfl)))
        (pss_one (ps_ret (pe_callA (i := 6) (heldS T z) (hr.mono (by decide)) rfl (.inl rfl) (pa_cons (pv 0) (pa_cons (pe_ix ix_list (pv 4) pe_int (fun _ _ => rfl)) pa_nil)))))) pss_nil)
      (pss_one (ps_ret pe_non))))))), ?_⟩
      refine ⟨_, rfl, t, _, 0, .str z, rfl, rfl, S, atI_nat (j := 0) rfl, ?_⟩
      refine ⟨_, rfl, 1, rfl, t, _, rfl, S, (by rintro ⟨e, _⟩; cases e), fun k nk => ⟨k, rfl, ⟨_, .inl (.inl upd_same)⟩, fun D nD => ?_⟩⟩
      have sk := same_upd (o := .tup [.int (i : Nat)]) nk
      have hk : upd H k (.tup [.int (i : Nat)]) k = some (.tup [.int (i : Nat)]) := upd_same
      refine lc_tup (K := K) (a := k) (xs := [.int (i : Nat)]) (fun n H1 => Same (upd H k (.tup [.int (i : Nat)])) H1 ∧ H1 D = some (.lst ((List.replicate n true).map V.bl))) ⟨same_upd nD, upd_same⟩ (fun n H1 _ h => .inl (.inl (h.1 _ _ hk))) ?_ ?_
      · rintro n v H1 hv ⟨s1, d1⟩
        have hn : n < 1 := (List.getElem?_eq_some_iff.mp hv).1
        have ev : v = .int (i : Nat) := List.mem_singleton.mp (List.mem_of_getElem? hv)
        subst ev
        have wt : whB 0 ((xs.length : Int) - 1) (.int (i : Nat)) = true := decide_eq_true ⟨by omega, by omega⟩
        refine ⟨rfl, yes_i (iteT ⟨_, rfl, _, rfl, l, xs, rfl, .inl (.inl (.inl (s1 _ _ (sk _ _ hl)))), _, 1, rfl, rfl, .int (i : Nat), 0, _, rfl, rfl, _, d1, ?_, same_put s1 nD, ?_⟩)⟩
        · rw [List.length_map, List.length_replicate]
          exact small1000 (by omega)
        · rw [upd_same, wt, List.replicate_succ', List.map_append]
          rfl
      · rintro H1 ⟨s1, d1⟩
        have sA := sk.trans s1
        refine ⟨D, _, rfl, .inl (.inl d1), _, rfl, iteF ?_⟩
        refine ⟨_, rfl, 1, rfl, t, _, rfl, .inl (.inl (sA _ _ ht)), (by rintro ⟨e, _⟩; cases e), fun k2 nk2 => ⟨k2, rfl, ⟨_, .inl (.inl upd_same)⟩, ?_⟩⟩
        rw [show cutV (Rw.row (.sg z i)) (some 1) none = [.int (i : Nat)] from rfl]
        refine fun D2 nD2 => ?_
        have sk2 := sA.trans (same_upd (o := .tup [.int (i : Nat)]) nk2)
        have hk2 : upd H1 k2 (.tup [.int (i : Nat)]) k2 = some (.tup [.int (i : Nat)]) := upd_same
        generalize upd H1 k2 (.tup [.int (i : Nat)]) = H2 at sk2 hk2 nD2 ⊢
        refine lc_tup (K := K) (a := k2) (xs := [.int (i : Nat)]) (fun n H3 => Same H2 H3 ∧ H3 D2 = some (.lst (([.ref t1] : List V).take n))) ⟨same_upd nD2, upd_same⟩ (fun n H3 _ h => .inl (.inl (h.1 _ _ hk2))) ?_ ?_
        · rintro n v H3 hv ⟨s3, d3⟩
          have hl3 := s3 _ _ (sk2 _ _ hl)
          match n, hv, d3 with
          | 0, hv, d3 =>
            cases hv
            exact ⟨rfl, yes_i (iteT ⟨_, rfl, _, rfl, l, xs, (i : Int), .ref t1, rfl, rfl, .inl (.inl hl3), atI_nat (j := i) e1, _, d3, small1000 (by show 0 ≤ 1000; decide), same_put s3 nD2, by rw [upd_same]; rfl⟩)⟩
          | n + 1, hv, _ => cases hv
        · rintro H3 ⟨s3, d3⟩
          have sB := sk2.trans s3
          have d3 : H3 D2 = some (.lst [.ref t1]) := d3
          have SD : SqL K H3 D2 [.ref t1] := .inl (.inl d3)
          have q' := q.at sB
          have n1 : ¬ ("soon" : Str) = "sure" := by decide +kernel
          have n2' : ¬ ("ahead" : Str) = "sure" := by decide +kernel
          have n3 : ¬ ("ahead" : Str) = "soon" := by decide +kernel
          unfold rSg at q'
          rcases hz with rfl | rfl | rfl
          · rw [if_pos rfl] at q'
            refine ⟨_, rfl, _, _, rfl, rfl, nt_PAIR_RULES_sure T, _, rfl, iteF (iteF ⟨_, rfl, _, _, rfl, rfl, nt_SINGLE_RULES_sure T, _, rfl, iteT ⟨_, rfl, D2, _, rfl, .inl SD, rfl, _, rfl, iteT ?_⟩⟩)⟩
            refine ⟨_, rfl, He.ga K "SINGLE_RULES", _, .ref (He.ga K "sure"), rfl, rfl, ⟨es2, n2, _, DS.at_, DS.lit, nt_SINGLE_RULES_sure T, rfl⟩, ?_⟩
            exact ⟨He.ga K "sure", sp_single okSure rSure, rfl, by unfold SS; rw [if_pos rfl]; exact one_at, _, rfl, _, rfl, D2, _, 0, .ref t1, rfl, rfl, SD, atI_nat (j := 0) rfl, d, t1, g, o, rfl, HD.same sB, sB _ _ ht1, ok, q'⟩
          · rw [if_neg n1, if_pos rfl] at q'
            refine ⟨_, rfl, _, _, rfl, rfl, nt_PAIR_RULES_soon T, _, rfl, iteF (iteF ⟨_, rfl, _, _, rfl, rfl, nt_SINGLE_RULES_soon T, _, rfl, iteT ⟨_, rfl, D2, _, rfl, .inl SD, rfl, _, rfl, iteT ?_⟩⟩)⟩
            refine ⟨_, rfl, He.ga K "SINGLE_RULES", _, .ref (He.ga K "soon"), rfl, rfl, ⟨es2, n2, _, DS.at_, DS.lit, nt_SINGLE_RULES_soon T, rfl⟩, ?_⟩
            exact ⟨He.ga K "soon", sp_single okAll rSoon, rfl, by unfold SS; rw [if_neg n1, if_pos rfl]; exact one_at, _, rfl, _, rfl, D2, _, 0, .ref t1, rfl, rfl, SD, atI_nat (j := 0) rfl, d, t1, g, o, rfl, HD.same sB, sB _ _ ht1, True.intro, q'⟩
          · rw [if_neg n2', if_neg n3] at q'
            refine ⟨_, rfl, _, _, rfl, rfl, nt_PAIR_RULES_ahead T, _, rfl, iteF (iteF ⟨_, rfl, _, _, rfl, rfl, nt_SINGLE_RULES_ahead T, _, rfl, iteT ⟨_, rfl, D2, _, rfl, .inl SD, rfl, _, rfl, iteT ?_⟩⟩)⟩
            refine ⟨_, rfl, He.ga K "SINGLE_RULES", _, .ref (He.ga K "ahead"), rfl, rfl, ⟨es2, n2, _, DS.at_, DS.lit, nt_SINGLE_RULES_ahead T, rfl⟩, ?_⟩
            exact ⟨He.ga K "ahead", sp_single okAll rAhead, rfl, by unfold SS; rw [if_neg n2', if_neg n3]; exact one_at, _, rfl, _, rfl, D2, _, 0, .ref t1, rfl, rfl, SD, atI_nat (j := 0) rfl, d, t1, g, o, rfl, HD.same sB, sB _ _ ht1, True.intro, q'⟩
end
end Tw

set_option maxHeartbeats 4000000
namespace Tw
open PySem PySem.Spec PyProof.Rows L2
/-! meaning -/
def ltS (f : Str → Option Ft) (x : Ft) : Str → Option Ft := fun z => if z = x.a then some x else f z
def ltOf (l : List Ft) : Str → Option Ft := l.foldl ltS fun _ => none
theorem LtK.put {H : Hp} {kvs : List (Key × V)} {f : Str → Option Ft} {x : Ft} {t : Addr} (k : LtK H kvs f) (ht : H t = some (.tup x.row)) : LtK H (putK kvs (kS x.a) (.ref t)) (ltS f x) := fun z => by
  unfold ltS
  by_cases e : z = x.a
  · rw [if_pos e]
    exact ⟨t, by rw [valV_put, if_pos (by rw [e])], ht⟩
  · rw [if_neg e]
    have hz := k z
    have ev : valV (putK kvs (kS x.a) (.ref t)) (kS z) = valV kvs (kS z) := by rw [valV_put, if_neg (fun q => e (Sum.inr.inj q))]
    cases ef : f z with
    | none =>
      rw [ef] at hz
      show valV _ _ = none
      rw [ev]
      exact hz
    | some r =>
      rw [ef] at hz
      obtain ⟨t', h1, h2⟩ := hz
      exact ⟨t', by rw [ev]; exact h1, h2⟩
/-- a row, read behind those ahead -/
def Step (m : Md) (prev : List Ft) (f : Ft) : Rw → Prop
  | .told x y n => [.str x, .str y, .int n] ∈ bRows m ∧ f = ⟨false, x, y, n⟩
  | .late k => ltOf ((hs m.wd).map lateF) k = some f
  | .pr z i j => (z = "along" ∨ z = "wait") ∧ ∃ o p, prev[i]? = some o ∧ prev[j]? = some p ∧ rPr z o p = some f
  | .sg z i => (z = "sure" ∨ z = "soon" ∨ z = "ahead") ∧ ∃ o, prev[i]? = some o ∧ okSure (hkOf (hs m.wd)) o ∧ rSg z (hkOf (hs m.wd)) o = some f
theorem Step.ok {m : Md} {prev : List Ft} {f : Ft} {r : Rw} (h : Step m prev f r) : r.ok := by
  cases r with
  | told x y n => exact True.intro
  | late k => exact True.intro
  | pr z i j => exact h.1
  | sg z i => exact h.1
theorem Rw.two (r : Rw) : 1 < r.row.length := by
  cases r <;> simp [Rw.row]
section
variable {P : Program} {w : World} {K : PySem.W.Frag} {mg : Str → Option Value} {base : Heap}
def sp_meaning (K : PySem.W.Frag) : Sp := fun vs H Q _ => ∃ (p L : Addr) (m : Md) (rws : List Rw) (fs : List Ft) (xs : List V), vs = [.ref p, .ref L] ∧ WebAt (CW K) H p m ∧ (∀ x ∈ m.bd, x.one ∈ m.pts ∧ x.oth ∈ m.pts) ∧ (∀ q ∈ bRows m, q.all okV = true) ∧ H L = some (.lst xs) ∧ Rows H xs (rws.map Rw.row) ∧ rws.length ≤ 900 ∧ fs.length = rws.length ∧
  (∀ i r, rws[i]? = some r → ∃ f, fs[i]? = some f ∧ Step m (fs.take i) f r) ∧ ∀ (D : Addr) (H' : Hp), Same H H' → H D = none → RowsAt H' D (fs.map Ft.row) → Q (.ref D) H'
theorem cal_meaning (T : Tp K mg) (TB : Tbs w K) : Cal P w K mg base 9 "meaning" (sp_meaning K) := by
  obtain ⟨fd, F⟩ := f_meaning T
  refine cal_of F (g_meaning T) (b_meaning F) sc_meaning (fun vs H Q E h => ?_) (fun cdv A outer s H vs Q E hr h => ?_)
  · obtain ⟨p, L, m, rws, fs, xs, rfl, _⟩ := h
    rfl
  · obtain ⟨p, L, m, rws, fs, xs, rfl, W, hpt, okr, hL, R, few, lf, st, q⟩ := h
    have hu := hu_of hr
    have hlen := W.len
    have hl := hs_len m.wd
    refine ⟨_, (pss_cons (ps_set (i := 2) sc_meaning.nd rfl (.inl rfl) (C8.pe_c (cal_bounds T) hr (by decide) rfl (pa_cons (pv 0) pa_nil)))
      (pss_cons (ps_dcs (i := 3) (own := [("fact", 8)]) (g := gName 8) (tt := tYes) ⟨rfl, rfl, rfl, rfl, by decide +kernel⟩ ⟨rfl, sc_meaning.nd, (pi_list (C8.pe_c (cal_late_waits T) hr (by decide) rfl (pa_cons (pv 0) pa_nil))), blkOk_by (N := N_meaning) (sc := defScope s_meaning) (by decide +kernel), fun _ _ _ _ _ => (pg_name (i := 8) sc_meaning.nd rfl (.inl rfl)), fun _ _ _ _ _ => pts_nil, fun _ _ _ _ _ => (pe_ix (ix_tupK (K := K) rfl) (pv 8) pe_int (fun _ _ => rfl)), fun _ _ _ _ _ => (pv 8), fun _ => rfl⟩)
      (pss_cons (ps_set (i := 4) sc_meaning.nd rfl (.inl rfl) (C8.pe_c (cal_heard_begins T) hr (by decide) rfl (pa_cons (pv 0) pa_nil)))
      (pss_cons (ps_set (i := 5) sc_meaning.nd rfl (.inl rfl) (pe_lst pa_nil))
      (pss_cons (ps_for PassesOwn.never rfl (pi_enum (by rfl) (z_enumerate T) (pa_cons (pv 1) pa_nil)) (pg_tup rfl (pgs_cons (pg_name (i := 6) sc_meaning.nd rfl (.inl rfl)) (pgs_cons (pg_name (i := 7) sc_meaning.nd rfl (.inl rfl)) pgs_nil)))
        (pss_cons (ps_set (i := 8) sc_meaning.nd rfl (.inl rfl) pe_non)
        (C8.pss_cut (ps_if (PW.pt (pw_and (pt_val (pe_callB call_isK (by rfl) (z_isinstance T) bb_isinstance (pa_cons (pv 7) (pa_cons (pe_bltn (v := .ty "tuple") (by rfl) (z_tuple T) bb_tuple rfl) pa_nil)))) (pw_and (pt_cmpR op_gt (pe_callB call_len_seq (by rfl) (z_len T) bb_len (pa_cons (pv 7) pa_nil)) pe_int (nomark _)) (pw_and1 (pt_val (pe_callB call_isK (by rfl) (z_isinstance T) bb_isinstance (pa_cons (pe_ix ix_tup (pv 7) pe_int (fun _ _ => rfl)) (pa_cons (pe_bltn (v := .ty "str") (by rfl) (z_str T) bb_str rfl) pa_nil)))))))) (pss_one (ps_set (i := 8) sc_meaning.nd rfl (.inl rfl) (pe_orT (C8.pe_c (cal_told_fact T) hr (by decide) rfl (pa_cons (pv 2) (pa_cons (pv 7) pa_nil))) (pe_orT (C8.pe_c (cal_late_fact T) hr (by decide) rfl (pa_cons (pv 3) (pa_cons (pv 7) pa_nil))) (pe_one (C8.pe_c (cal_made_fact T TB) hr (by decide) rfl (pa_cons (pv 4) (pa_cons (pv 5) (pa_cons (pv 7) pa_nil))))))))) pss_nil)
        (pss_cons (ps_if (pt_cmpR op_isN (pv 8) pe_non (nomark _)) (pss_one ps_never) pss_nil)
        (pss_one (ps_expr (pe_bm PySem.F.plainAttrs_list PySem.F.slot_list_append PySem.F.type_list_append mt_append (pv 5) (pa_cons (pv 8) pa_nil))))))))
      (pss_one (ps_ret (pv 5)))))))), ?_⟩
    refine ⟨_, rfl, p, m, rfl, W, hpt, fun B H1 s1 nB RB => ?_⟩
    refine ⟨_, rfl, p, m, rfl, W.same s1, fun LW H2 s2 nLW ⟨ys, hLW, RL⟩ => ⟨LW, rfl, ⟨_, .inl (.inl hLW)⟩, fun D nD => ?_⟩⟩
    have ly : ys.length = ((hs m.wd).map lateF).length := by rw [RL.len, List.length_map]
    have ll : ((hs m.wd).map lateF).length ≤ 4 := by
      rw [List.length_map]
      omega
    refine dc_walk (walk_list (K := K) (a := LW) (xs := ys)) (fun i H3 => Same H2 H3 ∧ ∃ kvs, H3 D = some (.dK kvs) ∧ kvs.length ≤ i ∧ LtK H3 kvs (ltOf (((hs m.wd).map lateF).take i))) ⟨same_upd nD, [], upd_same, Nat.le_refl _, fun z => rfl⟩ (fun i H3 _ h => .inl (.inl (h.1 _ _ hLW))) ?_ ?_
    · rintro i v H3' H3 hi ⟨s3, kvs, d3, n3, k3⟩ ⟨rfl, hv⟩
      obtain ⟨x, ex⟩ : ∃ x, ((hs m.wd).map lateF)[i]? = some x := ⟨_, List.getElem?_eq_getElem (by omega)⟩
      obtain ⟨t, rfl, ht⟩ := rows_at RL hv ex
      have ht3 := s3 _ _ ht
      refine ⟨rfl, yes_i (iteT ⟨_, rfl, t, _, 1, .str x.a, rfl, rfl, .inl (.inl ht3), atI_nat (j := 1) rfl, _, rfl, kvs, kS x.a, rfl, d3, small1000 (by omega), same_put s3 nD, _, upd_same, ?_, ?_⟩)⟩
      · have := length_putK kvs (kS x.a) (.ref t)
        omega
      · have et : ltOf (((hs m.wd).map lateF).take (i + 1)) = ltS (ltOf (((hs m.wd).map lateF).take i)) x := by
          unfold ltOf
          rw [List.take_add_one, ex, List.foldl_append]
          rfl
        rw [et]
        have kk : Kt H3 (upd H3 D (.dK (putK kvs (kS x.a) (.ref t)))) := Kt.upd fun zs z => by
          rw [d3] at z
          cases z
        exact (k3.put ht3).keep kk
    · rintro H3 ⟨s3, kvs, d3, n3, k3⟩
      rw [ly, List.take_length] at k3
      have s13 := (s1.trans s2).trans s3
      refine ⟨_, rfl, p, m, rfl, W.same s13, fun hd H4 s4 nhd HD => ⟨Nat.zero_le _, fun Fa nFa => ?_⟩⟩
      have s14 := s13.trans s4
      have LT : LtD H4 D (ltOf ((hs m.wd).map lateF)) := LtD.same ⟨kvs, d3, k3⟩ s4
      have RB4 : RowsAt H4 B (bRows m) := by
        obtain ⟨zs, h1, h2⟩ := RB
        have s := (s2.trans s3).trans s4
        exact ⟨zs, s _ _ h1, h2.keep (Kt.of s)⟩
      have hL4 := s14 _ _ hL
      have R4 := R.keep (Kt.of s14)
      have sF := same_upd (o := .lst []) nFa
      have lx : xs.length = rws.length := by rw [R.len, List.length_map]
      refine ⟨_, rfl, L, xs, rfl, .inl (.inl (sF _ _ hL4)), ?_⟩
      refine for_it (walk_enum (xs := xs)) (fun i σ H' => ∃ (zs : List V) (y6 y7 y8 : Option V), σ = [some (.ref p), some (.ref L), some (.ref B), some (.ref D), some (.ref hd), some (.ref Fa), y6, y7, y8] ∧ Same H4 H' ∧ H' Fa = some (.lst zs) ∧ Rows H' zs ((fs.take i).map Ft.row)) ⟨[], none, none, none, rfl, sF, upd_same, .nil⟩ (fun i σ H' _ ⟨_, _, _, _, _, s, _⟩ => .inl (.inl (s _ _ hL4))) ?_ ?_
      · rintro i v σ H5 H5' hi ⟨zs, y6, y7, y8, rfl, s5, hF5, RF5⟩ ⟨T', x, y, rfl, nT, rfl, ex, ey⟩
        cases ex
        obtain ⟨r, er⟩ : ∃ r, rws[i]? = some r := ⟨_, List.getElem?_eq_getElem (by omega)⟩
        obtain ⟨t, rfl, ht⟩ := rows_at R4 ey er
        obtain ⟨f, ef, sp⟩ := st i r er
        have sT := same_upd (o := .tup [.int (i : Nat), .ref t]) nT
        have s6 := s5.trans sT
        have hF6 := sT _ _ hF5
        have RF6 := RF5.keep (Kt.of sT)
        refine ⟨T', _, rfl, .inl (.inl upd_same), rfl, _, _, rfl, _, _, rfl, rfl, ?_⟩
        generalize upd H5 T' (.tup [.int (i : Nat), .ref t]) = H6 at sT s6 hF6 RF6 ⊢
        have ht6 := s6 _ _ ht
        have S : SqT K H6 t r.row := .inl (.inl ht6)
        have l2 := r.two
        have rok := sp.ok
        refine ⟨fun σ' H' => ∃ u : Addr, σ' = [some (.ref p), some (.ref L), some (.ref B), some (.ref D), some (.ref hd), some (.ref Fa), some (.int (i : Nat)), some (.ref t), some (.ref u)] ∧ Same H6 H' ∧ H' u = some (.tup f.row), ?_, ?_⟩
        · refine ⟨_, rfl, _, "tuple", "tuple", rfl, .base (.tup ht6), by decide, by decide, _, rfl, iteT ⟨_, rfl, t, _, rfl, .inr S, _, _, rfl, rfl, _, rfl, ?_⟩⟩
          rw [decide_eq_true (show (1 : Int) < (r.row.length : Nat) by omega)]
          refine iteT ⟨_, rfl, t, _, 0, .str r.wd, rfl, rfl, S, atI_nat (j := 0) r.first, _, "str", "str", rfl, .base (.str _), by decide, by decide, _, rfl, iteT ?_⟩
          have RB6 : RowsAt H6 B (bRows m) := by
            obtain ⟨zs, h1, h2⟩ := RB4
            exact ⟨zs, s6 _ _ h1, h2.keep (Kt.of s6)⟩
          refine ⟨_, rfl, _, rfl, B, t, bRows m, r, rfl, RB6, okr, ht6, rok, fun x y n e => ?_, fun nt => ⟨false, rfl, iteF ?_⟩⟩
          · subst e
            obtain ⟨hin, rfl⟩ := sp
            exact ⟨hin, fun u H' s' hu' => ⟨true, .inr (.inl ⟨_, .inl (.inl hu'), rfl⟩), iteT ⟨u, rfl, s', hu'⟩⟩⟩
          · refine ⟨_, rfl, _, rfl, D, t, ltOf ((hs m.wd).map lateF), r, rfl, LT.same s6, ht6, rok, fun k e => ?_, fun nl => ⟨false, rfl, iteF ?_⟩⟩
            · subst e
              exact ⟨f, sp, fun u hu' => ⟨true, .inr (.inl ⟨_, .inl (.inl hu'), rfl⟩), iteT ⟨u, rfl, Same.refl _, hu'⟩⟩⟩
            · refine ⟨_, rfl, _, rfl, _, rfl, ?_⟩
              have lp : (fs.take i).length ≤ 1000 := by
                rw [List.length_take]
                omega
              cases r with
              | told x y n => exact (nt x y n rfl).elim
              | late k => exact (nl k rfl).elim
              | pr z a b =>
                obtain ⟨hz, o, p', e1, e2, e3⟩ := sp
                exact .inl ⟨hd, Fa, t, fs.take i, zs, z, a, b, o, p', rfl, hF6, RF6, lp, ht6, hz, e1, e2, ⟨fun e => (by rw [e3] at e; cases e), fun g e u H' s' hu' => (by rw [e3] at e; cases e; exact ⟨u, rfl, s', hu'⟩)⟩⟩
              | sg z a =>
                obtain ⟨hz, o, e1, oks, e3⟩ := sp
                exact .inr ⟨hd, Fa, t, hkOf (hs m.wd), fs.take i, zs, z, a, o, rfl, HD.same s6, hF6, RF6, lp, ht6, hz, e1, oks, ⟨fun e => (by rw [e3] at e; cases e), fun g e u H' s' hu' => (by rw [e3] at e; cases e; exact ⟨u, rfl, s', hu'⟩)⟩⟩
        · rintro σ' H7 ⟨u, rfl, s7, hu7⟩
          have hF7 := s7 _ _ hF6
          have lz : zs.length ≤ 900 := by
            rw [RF5.len, List.length_map, List.length_take]
            omega
          refine ⟨_, rfl, rfl, _, rfl, ?_⟩
          rw [decide_eq_false (show ¬ V.ref u = V.non from fun z => by cases z)]
          refine iteF ⟨_, rfl, .inl ⟨rfl, _, .inl (.inl hF7)⟩, _, rfl, Fa, _, _, rfl, rfl, hF7, small1000 (by omega), ?_⟩
          have kF : Kt H7 (upd H7 Fa (.lst (zs ++ [.ref u]))) := Kt.upd fun ws z => by
            rw [hF7] at z
            cases z
          refine ⟨zs ++ [.ref u], _, _, _, rfl, same_put (s6.trans s7) nFa, upd_same, ?_⟩
          rw [List.take_add_one, ef, List.map_append]
          exact ((RF6.keep (Kt.of s7)).snoc hu7).keep kF
      · rintro σ H5 ⟨zs, y6, y7, y8, rfl, s5, hF5, RF5⟩
        rw [lx, ← lf, List.take_length] at RF5
        exact ⟨_, rfl, q Fa H5 (s14.trans s5) (s14.free nFa) ⟨zs, hF5, RF5⟩⟩
end
end Tw

set_option maxHeartbeats 4000000
namespace Tw
open PySem PySem.Spec PyProof.Rows L2
section
variable {P : Program} {w : World} {K : PySem.W.Frag} {mg : Str → Option Value} {base : Heap}
/-! ### _law_whole -/
def sp_lwhole : Sp := fun vs H Q _ => ∃ (v : V) (lo hi : Int), vs = [v, .int lo, .int hi] ∧ (plK v).isSome = true ∧ Q (.bl (whB lo hi v)) H
theorem cal__law_whole (T : Tp K mg) : Cal P w K mg base 2 "_law_whole" sp_lwhole := by
  obtain ⟨fd, F⟩ := f__law_whole T
  refine cal_of F (g__law_whole T) (b__law_whole F) sc__law_whole (fun vs H Q E h => ?_) (fun cdv A outer s H vs Q E hr h => ?_)
  · obtain ⟨v, lo, hi, rfl, _⟩ := h
    rfl
  · obtain ⟨v, lo, hi, rfl, hk, q⟩ := h
    refine ⟨_, (pss_one (ps_ret (pe_and (pe_callB call_isK (by rfl) (z_isinstance T) bb_isinstance (pa_cons (pv 0) (pa_cons (pe_bltn (v := .ty "int") (by rfl) (z_int T) bb_int rfl) pa_nil))) (pe_and (pe_not (pe_callB call_isK (by rfl) (z_isinstance T) bb_isinstance (pa_cons (pv 0) (pa_cons (pe_bltn (v := .ty "bool") (by rfl) (z_bool T) bb_bool rfl) pa_nil)))) (pe_one (pe_chain op_le op_le (pv 1) (pv 0) (pv 2))))))), ?_⟩
    cases v with
    | non => exact ⟨_, rfl, _, "int", "NoneType", rfl, .base .non, by decide, by decide, _, rfl, iteF q⟩
    | bl b => exact ⟨_, rfl, _, "int", "bool", rfl, .base (.bl _), by decide, by decide, _, rfl, iteT ⟨_, rfl, _, "bool", "bool", rfl, .base (.bl _), by decide, by decide, _, rfl, _, rfl, iteF q⟩⟩
    | str z => exact ⟨_, rfl, _, "int", "str", rfl, .base (.str _), by decide, by decide, _, rfl, iteF q⟩
    | byt b => cases hk
    | flt b => cases hk
    | ref b => cases hk
    | ty b => cases hk
    | int i =>
      refine ⟨_, rfl, _, "int", "int", rfl, .base (.int _), by decide, by decide, _, rfl, iteT ⟨_, rfl, _, "bool", "int", rfl, .base (.int _), by decide, by decide, _, rfl, _, rfl, ?_⟩⟩
      refine iteT ⟨_, rfl, _, rfl, _, _, rfl, rfl, _, rfl, ite2 (fun e => ?_) (fun e => ?_)⟩
      · have e1 : lo ≤ i := of_decide_eq_true e
        refine ⟨_, rfl, _, _, rfl, rfl, ?_⟩
        have e2 : decide (lo ≤ i ∧ i ≤ hi) = decide (i ≤ hi) := by simp [e1]
        have q : Q (.bl (decide (lo ≤ i ∧ i ≤ hi))) H := q
        rw [e2] at q
        exact q
      · have e1 : ¬ lo ≤ i := fun z => e (decide_eq_true z)
        have e2 : decide (lo ≤ i ∧ i ≤ hi) = false := by simp [e1]
        have q : Q (.bl (decide (lo ≤ i ∧ i ≤ hi))) H := q
        rw [e2] at q
        exact q
end
end Tw

set_option maxHeartbeats 4000000
namespace Tw
open PySem PySem.Spec PyProof.Rows L2
/-! the law's own reading of made rows -/
theorem ix_along : (((4 : Nat) : Int) - 3 + if decide (V.str "along" = V.str "wait") = true then 1 else 0) = 1 := by decide +kernel
theorem ix_wait : (((4 : Nat) : Int) - 3 + if decide (V.str "wait" = V.str "wait") = true then 1 else 0) = 2 := by decide +kernel
theorem ne_aw : ¬ V.str "along" = V.str "wait" := by decide +kernel
theorem ne_wa : ¬ V.str "wait" = V.str "along" := by decide +kernel
section
variable {P : Program} {w : World} {K : PySem.W.Frag} {mg : Str → Option Value} {base : Heap}
def sp_rpair : Sp := fun vs H Q _ => ∃ (s t : Addr) (x : V) (z : Str) (o p : Ft), vs = [x, .str z, .ref s, .ref t] ∧ H s = some (.tup o.row) ∧ H t = some (.tup p.row) ∧ (z = "along" ∨ z = "wait") ∧ MadeF (rPr z o p) H Q
theorem cal__law_read_pair (T : Tp K mg) : Cal P w K mg base 2 "_law_read_pair" sp_rpair := by
  obtain ⟨fd, F⟩ := f__law_read_pair T
  refine cal_of F (g__law_read_pair T) (b__law_read_pair F) sc__law_read_pair (fun vs H Q E h => ?_) (fun cdv A outer s H vs Q E hr h => ?_)
  · obtain ⟨s, t, x, z, o, p, rfl, _⟩ := h
    rfl
  · obtain ⟨s, t, x, z, o, p, rfl, hs, ht, hz, q1, q2⟩ := h
    have S : SqT K H s o.row := .inl (.inl hs)
    have S' : SqT K H t p.row := .inl (.inl ht)
    refine ⟨_, (pss_cons (ps_if (PW.pt (pw_or (pt_cmpR op_ne (pe_ix ix_tup (pv 2) pe_int (fun _ _ => rfl)) pe_str (nomark _)) (pw_or1 (pt_cmpR op_ne (pe_ix ix_tup (pv 2) pe_int (fun _ _ => rfl)) (pe_ix ix_tup (pv 3) (pe_op op_add (pe_op op_sub (pe_callB call_len_seq (by rfl) (z_len T) bb_len (pa_cons (pv 3) pa_nil)) pe_int) (pe_callTy call_int1 (by rfl) (z_int T) bb_int (pa_cons (pe_cmpR op_eq (pv 1) pe_str (nomark _)) pa_nil))) (fun _ _ => rfl)) (nomark _))))) (pss_one (ps_ret pe_non)) pss_nil)
      (pss_cons (ps_if (PW.pt (pw_and (pt_cmpR op_eq (pv 1) pe_str (nomark _)) (pw_and1 (pt_cmpR op_eq (pe_ix ix_tup (pv 3) pe_int (fun _ _ => rfl)) pe_str (nomark _))))) (pss_one (ps_ret (pe_tup (pa_cons pe_str (pa_cons (pe_ix ix_tup (pv 2) pe_int (fun _ _ => rfl)) (pa_cons (pe_ix ix_tup (pv 3) pe_int (fun _ _ => rfl)) (pa_cons (pe_op op_add (pe_ix ix_tup (pv 2) pe_int (fun _ _ => rfl)) (pe_ix ix_tup (pv 3) pe_int (fun _ _ => rfl))) pa_nil))))))) pss_nil)
      (pss_cons (ps_if (PW.pt (pw_and (pt_cmpR op_eq (pv 1) pe_str (nomark _)) (pw_and1 (pt_cmpR op_eq (pe_ix ix_tup (pv 3) pe_int (fun _ _ => rfl)) pe_str (nomark _))))) (pss_one (ps_ret (pe_tup (pa_cons pe_str (pa_cons (pe_ix ix_tup (pv 3) pe_int (fun _ _ => rfl)) (pa_cons (pe_ix ix_tup (pv 2) pe_int (fun _ _ => rfl)) (pa_cons (pe_op op_add (pe_ix ix_tup (pv 2) pe_int (fun _ _ => rfl)) (pe_ix ix_tup (pv 3) pe_int (fun _ _ => rfl))) pa_nil))))))) pss_nil)
      (pss_one (ps_ret pe_non))))), ?_⟩
    refine ⟨_, rfl, s, _, 0, _, rfl, rfl, S, atI_nat (j := 0) rfl, rfl, _, rfl, ?_⟩
    rw [wd_most]
    have nw : ¬ ("wait" : Str) = "along" := by decide +kernel
    cases eo : o.u with
    | true =>
      refine iteT (q1 ?_)
      unfold rPr rAlong rWait
      rcases hz with rfl | rfl
      · rw [if_pos rfl, if_neg (by rw [eo]; intro z; cases z.1)]
      · rw [if_neg nw, if_neg (by rw [eo]; intro z; cases z.1)]
    | false =>
      rcases hz with rfl | rfl
      · refine iteF ⟨_, rfl, s, _, 2, _, rfl, rfl, S, atI_nat (j := 2) rfl, _, rfl, _, rfl, t, _, rfl, .inr S', _, 3, rfl, rfl, _, rfl, rfl, .inr ⟨_, rfl, _, _, rfl, rfl, t, _, _, .str p.a, rfl, rfl, S', (by rw [show (p.row.length : Nat) = 4 from rfl, ix_along]; exact atI_nat (j := 1) rfl), rfl, _, rfl, ?_⟩⟩
        unfold rPr at q1 q2
        rw [if_pos rfl] at q1 q2
        unfold rAlong at q1 q2
        by_cases c : o.b = p.a
        · rw [decide_eq_true (show V.str o.b = V.str p.a by rw [c])]
          refine iteF ⟨_, rfl, rfl, _, rfl, ?_⟩
          rw [decide_eq_true (show V.str "along" = V.str "along" from rfl)]
          refine iteT ⟨_, rfl, t, _, 0, _, rfl, rfl, S', atI_nat (j := 0) rfl, rfl, _, rfl, ?_⟩
          rw [wd_most]
          cases ep : p.u with
          | false =>
            refine iteT ⟨_, rfl, s, _, 1, _, rfl, rfl, S, atI_nat (j := 1) rfl, _, rfl, t, _, 2, _, rfl, rfl, S', atI_nat (j := 2) rfl, _, rfl, s, _, 3, _, rfl, rfl, S, atI_nat (j := 3) rfl, _, rfl, t, _, 3, _, rfl, rfl, S', atI_nat (j := 3) rfl, o.n, p.n, rfl, rfl, (by show 4 ≤ sizeLine; decide), fun u nu => ?_⟩
            exact q2 ⟨false, o.a, p.b, o.n + p.n⟩ (by rw [if_pos ⟨eo, ep, c⟩]) u nu
          | true =>
            refine iteF ⟨_, rfl, rfl, _, rfl, ?_⟩
            rw [decide_eq_false ne_aw]
            exact iteF (iteF (q1 (by rw [if_neg (by rw [ep]; intro z; cases z.2.1)])))
        · rw [decide_eq_false (show ¬ V.str o.b = V.str p.a from fun z => c (V.str.inj z))]
          exact iteT (q1 (by rw [if_neg (fun z => c z.2.2)]))
      · refine iteF ⟨_, rfl, s, _, 2, _, rfl, rfl, S, atI_nat (j := 2) rfl, _, rfl, _, rfl, t, _, rfl, .inr S', _, 3, rfl, rfl, _, rfl, rfl, .inr ⟨_, rfl, _, _, rfl, rfl, t, _, _, .str p.b, rfl, rfl, S', (by rw [show (p.row.length : Nat) = 4 from rfl, ix_wait]; exact atI_nat (j := 2) rfl), rfl, _, rfl, ?_⟩⟩
        unfold rPr at q1 q2
        rw [if_neg nw] at q1 q2
        unfold rWait at q1 q2
        by_cases c : o.b = p.b
        · rw [decide_eq_true (show V.str o.b = V.str p.b by rw [c])]
          refine iteF ⟨_, rfl, rfl, _, rfl, ?_⟩
          rw [decide_eq_false ne_wa]
          refine iteF (iteF ⟨_, rfl, rfl, _, rfl, ?_⟩)
          rw [decide_eq_true (show V.str "wait" = V.str "wait" from rfl)]
          refine iteT ⟨_, rfl, t, _, 0, _, rfl, rfl, S', atI_nat (j := 0) rfl, rfl, _, rfl, ?_⟩
          rw [wd_until]
          cases ep : p.u with
          | true =>
            refine iteT ⟨_, rfl, t, _, 1, _, rfl, rfl, S', atI_nat (j := 1) rfl, _, rfl, s, _, 1, _, rfl, rfl, S, atI_nat (j := 1) rfl, _, rfl, s, _, 3, _, rfl, rfl, S, atI_nat (j := 3) rfl, _, rfl, t, _, 3, _, rfl, rfl, S', atI_nat (j := 3) rfl, o.n, p.n, rfl, rfl, (by show 4 ≤ sizeLine; decide), fun u nu => ?_⟩
            exact q2 ⟨true, p.a, o.a, o.n + p.n⟩ (by rw [if_pos ⟨eo, ep, c⟩]) u nu
          | false => exact iteF (q1 (by rw [if_neg (by rw [ep]; intro z; cases z.2.1)]))
        · rw [decide_eq_false (show ¬ V.str o.b = V.str p.b from fun z => c (V.str.inj z))]
          exact iteT (q1 (by rw [if_neg (fun z => c z.2.2)]))
theorem nS1 : ¬ V.str "sure" = V.str "soon" := by decide +kernel
theorem nS2 : ¬ V.str "sure" = V.str "ahead" := by decide +kernel
theorem nS3 : ¬ V.str "soon" = V.str "sure" := by decide +kernel
theorem nS4 : ¬ V.str "soon" = V.str "ahead" := by decide +kernel
theorem nS5 : ¬ V.str "ahead" = V.str "sure" := by decide +kernel
theorem nS6 : ¬ V.str "ahead" = V.str "soon" := by decide +kernel
def sp_rone : Sp := fun vs H Q _ => ∃ (d t : Addr) (m : Md) (z : Str) (o : Ft), vs = [.ref d, .str z, .ref t] ∧ MdAt H d m ∧ m.wd.length ≤ 4 ∧ H t = some (.tup o.row) ∧ (z = "sure" ∨ z = "soon" ∨ z = "ahead") ∧ okSure (hkOf (hs m.wd)) o ∧ MadeS (rSg z (hkOf (hs m.wd)) o) H Q
theorem cal__law_read_one (T : Tp K mg) : Cal P w K mg base 4 "_law_read_one" sp_rone := by
  obtain ⟨fd, F⟩ := f__law_read_one T
  refine cal_of F (g__law_read_one T) (b__law_read_one F) sc__law_read_one (fun vs H Q E h => ?_) (fun cdv A outer s H vs Q E hr h => ?_)
  · obtain ⟨d, t, m, z, o, rfl, _⟩ := h
    rfl
  · obtain ⟨d, t, m, z, o, rfl, M, few, ht, hz, ok, q⟩ := h
    have hu := hu_of hr
    have hl := hs_len m.wd
    refine ⟨_, (pss_cons (ps_set (i := 3) sc__law_read_one.nd rfl (.inl rfl) pe_dnewK)
      (pss_cons (ps_for PassesOwn.never rfl (pi_list (C8.pe_c (cal__law_heard T) hr (by decide) rfl (pa_cons (pv 0) pa_nil))) (pg_tup rfl (pgs_cons (pg_name (i := 4) sc__law_read_one.nd rfl (.inl rfl)) (pgs_cons (pg_name (i := 5) sc__law_read_one.nd rfl (.inl rfl)) (pgs_cons (pg_name (i := 6) sc__law_read_one.nd rfl (.inl rfl)) (pgs_cons (pg_name (i := 7) sc__law_read_one.nd rfl (.inl rfl)) pgs_nil)))))
        (pss_one (ps_dput hu (pv 3) (pv 4) (pe_tup (pa_cons (pv 5) (pa_cons (pv 6) pa_nil))) rfl)))
      (pss_cons (ps_if (PW.pt (pw_and (pt_cmpR op_eq (pv 1) pe_str (nomark _)) (pw_and1 (pt_cmpR op_eq (pe_ix ix_tup (pv 2) pe_int (fun _ _ => rfl)) pe_str (nomark _))))) (pss_one (ps_ret (pe_tup (pa_cons pe_str (pa_cons (pe_ix ix_tup (pv 2) pe_int (fun _ _ => rfl)) (pa_cons (pe_ix ix_tup (pe_dget hu (pv 3) (pe_ix ix_tup (pv 2) pe_int (fun _ _ => rfl)) (fun _ _ => rfl)) pe_int (fun _ _ => rfl)) (pa_cons (pe_callB (call_max2 rfl) (by rfl) (z_max T) bb_max (pa_cons (pe_ix ix_tup (pv 2) pe_int (fun _ _ => rfl)) (pa_cons (pe_un un_neg (pe_ix ix_tup (pe_dget hu (pv 3) (pe_ix ix_tup (pv 2) pe_int (fun _ _ => rfl)) (fun _ _ => rfl)) pe_int (fun _ _ => rfl))) pa_nil))) pa_nil))))))) pss_nil)
      (pss_cons (ps_if (pt_cmpR op_ge (pe_ix ix_tup (pv 2) pe_int (fun _ _ => rfl)) pe_int (nomark _)) (pss_one (ps_ret pe_non)) pss_nil)
      (pss_cons (ps_if (PW.pt (pw_and (pt_cmpR op_eq (pv 1) pe_str (nomark _)) (pw_and (pt_cmpR op_eq (pe_ix ix_tup (pv 2) pe_int (fun _ _ => rfl)) pe_str (nomark _)) (pw_and1 (pt_cmp (pc_din hu (pe_ix ix_tup (pv 2) pe_int (fun _ _ => rfl)) (pv 3)) (by rfl)))))) (pss_one (ps_ret (pe_tup (pa_cons pe_str (pa_cons (pe_ix ix_tup (pe_dget hu (pv 3) (pe_ix ix_tup (pv 2) pe_int (fun _ _ => rfl)) (fun _ _ => rfl)) pe_int (fun _ _ => rfl)) (pa_cons (pe_ix ix_tup (pv 2) pe_int (fun _ _ => rfl)) (pa_cons (pe_op op_add (pe_ix ix_tup (pv 2) pe_int (fun _ _ => rfl)) (pe_ix ix_tup (pe_dget hu (pv 3) (pe_ix ix_tup (pv 2) pe_int (fun _ _ => rfl)) (fun _ _ => rfl)) pe_int (fun _ _ => rfl))) pa_nil))))))) pss_nil)
      (pss_cons (ps_if (PW.pt (pw_and (pt_cmpR op_eq (pv 1) pe_str (nomark _)) (pw_and (pt_cmpR op_eq (pe_ix ix_tup (pv 2) pe_int (fun _ _ => rfl)) pe_str (nomark _)) (pw_and (pt_cmp (pc_din hu (pe_ix ix_tup (pv 2) pe_int (fun _ _ => rfl)) (pv 3)) (by rfl)) (pw_and1 (pt_cmpR op_ne (pe_ix ix_tup (pv 2) pe_int (fun _ _ => rfl)) (pe_ix ix_tup (pv 2) pe_int (fun _ _ => rfl)) (nomark _))))))) (pss_one (ps_ret (pe_tup (pa_cons pe_str (pa_cons (pe_ix ix_tup (pv 2) pe_int (fun _ _ => rfl)) (pa_cons (pe_ix ix_tup (pe_dget hu (pv 3) (pe_ix ix_tup (pv 2) pe_int (fun _ _ => rfl)) (fun _ _ => rfl)) pe_int (fun _ _ => rfl)) (pa_cons (pe_op op_add (pe_ix ix_tup (pv 2) pe_int (fun _ _ => rfl)) (pe_ix ix_tup (pe_dget hu (pv 3) (pe_ix ix_tup (pv 2) pe_int (fun _ _ => rfl)) (fun _ _ => rfl)) pe_int (fun _ _ => rfl))) pa_nil))))))) pss_nil)
      (pss_one (ps_ret pe_non)))))))), ?_⟩
    refine fun W nW => ?_
    have sW := same_upd (o := .dK []) nW
    refine ⟨_, rfl, d, m, rfl, M.same sW, by omega, fun L H1 s1 nL ⟨xs, hL, R⟩ => ⟨L, rfl, ⟨_, .inl (.inl hL)⟩, ?_⟩⟩
    have lx : xs.length = (hs m.wd).length := by rw [R.len, List.length_map]
    have hW1 := s1 _ _ (upd_same (H := H) (a := W) (o := .dK []))
    have sH1 : Same H H1 := sW.trans s1
    have nWL : L ≠ W := fun e => by
      rw [e, hW1] at hL
      cases hL
    refine for_list (K := K) (a := L) (xs := xs) (fun i σ H2 => ∃ (kvs : List (Key × V)) (y4 y5 y6 y7 : Option V), σ = [some (.ref d), some (.str z), some (.ref t), some (.ref W), y4, y5, y6, y7] ∧ Same H H2 ∧ H2 L = some (.lst xs) ∧ Rows H2 xs ((hs m.wd).map hRow) ∧ H2 W = some (.dK kvs) ∧ kvs.length ≤ i ∧ HdK H2 kvs (hkOf ((hs m.wd).take i))) ⟨[], none, none, none, none, rfl, sH1, hL, R, hW1, Nat.le_refl _, fun z => rfl⟩ (fun i σ H2 _ ⟨_, _, _, _, _, _, _, h, _⟩ => .inl (.inl h)) ?_ ?_
    · rintro i v σ H2 hv ⟨kvs, y4, y5, y6, y7, rfl, s2, hL2, R2, hW2, n2, k2⟩
      have hi : i < xs.length := (List.getElem?_eq_some_iff.mp hv).1
      obtain ⟨h, eh⟩ : ∃ h, (hs m.wd)[i]? = some h := ⟨_, List.getElem?_eq_getElem (by omega)⟩
      obtain ⟨t', rfl, ht'⟩ := rows_at R2 hv eh
      refine ⟨t', hRow h, rfl, .inl (.inl ht'), rfl, _, _, rfl, _, _, rfl, _, _, rfl, _, _, rfl, rfl, ?_⟩
      refine ⟨_, rfl, _, rfl, (by show 2 ≤ sizeLine; decide), fun u nu => ?_⟩
      have su := same_upd (o := .tup [.str h.2.1, .int h.2.2.1]) nu
      have hW3 := su _ _ hW2
      refine ⟨_, rfl, _, rfl, W, _, rfl, DPut.k (k := kS h.1) hW3 (small1000 (by omega)), ?_⟩
      have kk : Kt (upd H2 u (.tup [.str h.2.1, .int h.2.2.1])) (upd (upd H2 u (.tup [.str h.2.1, .int h.2.2.1])) W (.dK (putK kvs (kS h.1) (.ref u)))) := Kt.upd fun zs z => by
        rw [hW3] at z
        cases z
      refine ⟨_, _, _, _, _, rfl, same_put (s2.trans su) nW, by rw [upd_ne nWL]; exact su _ _ hL2, (R2.keep (Kt.of su)).keep kk, upd_same, ?_, ?_⟩
      · have := length_putK kvs (kS h.1) (.ref u)
        omega
      · have et : hkOf ((hs m.wd).take (i + 1)) = hkS (hkOf ((hs m.wd).take i)) h := by
          unfold hkOf
          rw [List.take_add_one, eh, List.foldl_append]
          rfl
        rw [et]
        exact ((k2.keep (Kt.of su)).put upd_same).keep kk
    · rintro σ H2 ⟨kvs, y4, y5, y6, y7, rfl, s2, hL2, R2, hW2, n2, k2⟩
      rw [lx, List.take_length] at k2
      have D : HdD H2 W (hkOf (hs m.wd)) := ⟨kvs, hW2, k2⟩
      have S : SqT K H2 t o.row := .inl (.inl (s2 _ _ ht))
      obtain ⟨q1, q2⟩ := q.at s2
      have n1 : ¬ ("soon" : Str) = "sure" := by decide +kernel
      have n2' : ¬ ("ahead" : Str) = "sure" := by decide +kernel
      have n3 : ¬ ("ahead" : Str) = "soon" := by decide +kernel
      unfold rSg at q1 q2
      rcases hz with rfl | rfl | rfl
      · rw [if_pos rfl] at q1 q2
        unfold rSure at q1 q2
        refine ⟨_, rfl, rfl, _, rfl, ?_⟩
        rw [decide_eq_true (show V.str "sure" = V.str "sure" from rfl)]
        refine iteT ⟨_, rfl, t, _, 0, _, rfl, rfl, S, atI_nat (j := 0) rfl, rfl, _, rfl, ?_⟩
        rw [wd_until]
        cases eo : o.u with
        | true =>
          obtain ⟨r, er⟩ := Option.isSome_iff_exists.mp (ok eo)
          obtain ⟨t2, g, ht2⟩ := D.some er
          refine iteT ⟨_, rfl, t, _, 2, _, rfl, rfl, S, atI_nat (j := 2) rfl, _, rfl, _, rfl, t, _, 1, _, rfl, rfl, S, atI_nat (j := 1) rfl, W, _, rfl, g, t2, _, 0, _, rfl, rfl, .inl (.inl ht2), atI_nat (j := 0) rfl, _, rfl, t, _, 3, _, rfl, rfl, S, atI_nat (j := 3) rfl, _, rfl, _, rfl, t, _, 1, _, rfl, rfl, S, atI_nat (j := 1) rfl, W, _, rfl, g, t2, _, 1, _, rfl, rfl, .inl (.inl ht2), atI_nat (j := 1) rfl, _, rfl, o.n, -r.2, rfl, (by show 4 ≤ sizeLine; decide), fun x nx => ?_⟩
          have em : (if -r.2 > o.n then -r.2 else o.n) = max o.n (-r.2) := by
            by_cases c : -r.2 > o.n
            · rw [if_pos c]
              omega
            · rw [if_neg c]
              omega
          rw [em]
          exact q2 ⟨false, o.b, r.1, max o.n (-r.2)⟩ (by rw [if_pos eo, er]; rfl) x nx
        | false =>
          have qn := q1 (by rw [if_neg (by rw [eo]; intro z; cases z)])
          refine iteF ⟨_, rfl, t, _, 3, _, rfl, rfl, S, atI_nat (j := 3) rfl, o.n, 0, rfl, rfl, _, rfl, ite2 (fun _ => qn) (fun _ => ⟨_, rfl, rfl, _, rfl, ?_⟩)⟩
          rw [decide_eq_false nS1]
          refine iteF (iteF ⟨_, rfl, rfl, _, rfl, ?_⟩)
          rw [decide_eq_false nS2]
          exact iteF (iteF qn)
      · rw [if_neg n1, if_pos rfl] at q1 q2
        unfold rSoon at q1 q2
        refine ⟨_, rfl, rfl, _, rfl, ?_⟩
        rw [decide_eq_false nS3]
        refine iteF (iteF ⟨_, rfl, t, _, 3, _, rfl, rfl, S, atI_nat (j := 3) rfl, o.n, 0, rfl, rfl, _, rfl, ?_⟩)
        by_cases c : o.n < 0
        · rw [decide_eq_false (by omega : ¬ (0 : Int) ≤ o.n)]
          refine iteF ⟨_, rfl, rfl, _, rfl, ?_⟩
          rw [decide_eq_true (show V.str "soon" = V.str "soon" from rfl)]
          refine iteT ⟨_, rfl, t, _, 0, _, rfl, rfl, S, atI_nat (j := 0) rfl, rfl, _, rfl, ?_⟩
          rw [wd_most]
          cases eo : o.u with
          | true =>
            have qn := q1 (by rw [if_neg (by rw [eo]; intro z; cases z.1)])
            refine iteF ⟨_, rfl, rfl, _, rfl, ?_⟩
            rw [decide_eq_false nS4]
            exact iteF (iteF qn)
          | false =>
            cases er : hkOf (hs m.wd) o.a with
            | none =>
              have qn := q1 (by rw [if_pos ⟨eo, c⟩, er]; rfl)
              refine iteT ⟨_, rfl, t, _, 1, _, rfl, rfl, S, atI_nat (j := 1) rfl, _, rfl, W, _, rfl, D.none er, _, rfl, iteF ⟨_, rfl, rfl, _, rfl, ?_⟩⟩
              rw [decide_eq_false nS4]
              exact iteF (iteF qn)
            | some r =>
              obtain ⟨t2, g, ht2⟩ := D.some er
              refine iteT ⟨_, rfl, t, _, 1, _, rfl, rfl, S, atI_nat (j := 1) rfl, _, rfl, W, _, rfl, g, _, rfl, iteT ?_⟩
              refine ⟨_, rfl, _, rfl, t, _, 1, _, rfl, rfl, S, atI_nat (j := 1) rfl, W, _, rfl, g, t2, _, 0, _, rfl, rfl, .inl (.inl ht2), atI_nat (j := 0) rfl, _, rfl, t, _, 2, _, rfl, rfl, S, atI_nat (j := 2) rfl, _, rfl, t, _, 3, _, rfl, rfl, S, atI_nat (j := 3) rfl, _, rfl, _, rfl, t, _, 1, _, rfl, rfl, S, atI_nat (j := 1) rfl, W, _, rfl, g, t2, _, 1, _, rfl, rfl, .inl (.inl ht2), atI_nat (j := 1) rfl, o.n, r.2, rfl, rfl, (by show 4 ≤ sizeLine; decide), fun x nx => ?_⟩
              have h := q2 ⟨false, r.1, o.b, r.2 + o.n⟩ (by rw [if_pos ⟨eo, c⟩, er]; rfl) x nx
              rw [show r.2 + o.n = o.n + r.2 from Int.add_comm _ _] at h
              exact h
        · rw [decide_eq_true (by omega : (0 : Int) ≤ o.n)]
          exact iteT (q1 (by rw [if_neg (fun z => c z.2)]))
      · rw [if_neg n2', if_neg n3] at q1 q2
        unfold rAhead at q1 q2
        refine ⟨_, rfl, rfl, _, rfl, ?_⟩
        rw [decide_eq_false nS5]
        refine iteF (iteF ⟨_, rfl, t, _, 3, _, rfl, rfl, S, atI_nat (j := 3) rfl, o.n, 0, rfl, rfl, _, rfl, ?_⟩)
        by_cases c : o.n < 0
        · rw [decide_eq_false (by omega : ¬ (0 : Int) ≤ o.n)]
          refine iteF ⟨_, rfl, rfl, _, rfl, ?_⟩
          rw [decide_eq_false nS6]
          refine iteF (iteF ⟨_, rfl, rfl, _, rfl, ?_⟩)
          rw [decide_eq_true (show V.str "ahead" = V.str "ahead" from rfl)]
          refine iteT ⟨_, rfl, t, _, 0, _, rfl, rfl, S, atI_nat (j := 0) rfl, rfl, _, rfl, ?_⟩
          rw [wd_until]
          cases eo : o.u with
          | false => exact iteF (q1 (by rw [if_neg (by rw [eo]; intro z; cases z.1)]))
          | true =>
            cases er : hkOf (hs m.wd) o.b with
            | none => exact iteT ⟨_, rfl, t, _, 2, _, rfl, rfl, S, atI_nat (j := 2) rfl, _, rfl, W, _, rfl, D.none er, _, rfl, iteF (q1 (by rw [er]; by_cases c2 : o.u = true ∧ ¬ o.a = o.b ∧ o.n < 0; rw [if_pos c2]; rfl; rw [if_neg c2]))⟩
            | some r =>
              obtain ⟨t2, g, ht2⟩ := D.some er
              refine iteT ⟨_, rfl, t, _, 2, _, rfl, rfl, S, atI_nat (j := 2) rfl, _, rfl, W, _, rfl, g, _, rfl, iteT ⟨_, rfl, t, _, 1, _, rfl, rfl, S, atI_nat (j := 1) rfl, _, rfl, t, _, 2, _, rfl, rfl, S, atI_nat (j := 2) rfl, rfl, _, rfl, ?_⟩⟩
              by_cases c1 : o.a = o.b
              · rw [decide_eq_true (show V.str o.a = V.str o.b by rw [c1])]
                exact iteF (q1 (by rw [if_neg (fun z => z.2.1 c1)]))
              · rw [decide_eq_false (show ¬ V.str o.a = V.str o.b from fun z => c1 (V.str.inj z))]
                refine iteT ⟨_, rfl, t, _, 1, _, rfl, rfl, S, atI_nat (j := 1) rfl, _, rfl, _, rfl, t, _, 2, _, rfl, rfl, S, atI_nat (j := 2) rfl, W, _, rfl, g, t2, _, 0, _, rfl, rfl, .inl (.inl ht2), atI_nat (j := 0) rfl, _, rfl, t, _, 3, _, rfl, rfl, S, atI_nat (j := 3) rfl, _, rfl, _, rfl, t, _, 2, _, rfl, rfl, S, atI_nat (j := 2) rfl, W, _, rfl, g, t2, _, 1, _, rfl, rfl, .inl (.inl ht2), atI_nat (j := 1) rfl, o.n, r.2, rfl, rfl, (by show 4 ≤ sizeLine; decide), fun x nx => ?_⟩
                have h := q2 ⟨true, o.a, r.1, r.2 + o.n⟩ (by rw [if_pos ⟨eo, c1, c⟩, er]; rfl) x nx
                rw [show r.2 + o.n = o.n + r.2 from Int.add_comm _ _] at h
                exact h
        · rw [decide_eq_true (by omega : (0 : Int) ≤ o.n)]
          exact iteT (q1 (by rw [if_neg (fun z => c z.2.2)]))
end
end Tw

set_option maxHeartbeats 4000000
namespace Tw
open PySem PySem.Spec PyProof.Rows L2
/-! _law_read_row, of rows that stand in their bounds -/
def sz0 : List (Key × V) := [(kS "told", .int 4), (kS "late", .int 2), (kS "along", .int 3), (kS "wait", .int 3), (kS "sure", .int 2), (kS "soon", .int 2), (kS "ahead", .int 2)]
theorem sz_ok {r : Rw} (ok : r.ok) : valV (mergeK [] sz0) (kS r.wd) = some (.int (r.row.length : Nat)) := by
  cases r with
  | told x y n =>
    show valV (mergeK [] sz0) (kS "told") = some (.int 4)
    decide +kernel
  | late k =>
    show valV (mergeK [] sz0) (kS "late") = some (.int 2)
    decide +kernel
  | pr z i j =>
    rcases (show z = "along" ∨ z = "wait" from ok) with rfl | rfl
    · show valV (mergeK [] sz0) (kS "along") = some (.int 3)
      decide +kernel
    · show valV (mergeK [] sz0) (kS "wait") = some (.int 3)
      decide +kernel
  | sg z i =>
    rcases (show z = "sure" ∨ z = "soon" ∨ z = "ahead" from ok) with rfl | rfl | rfl
    · show valV (mergeK [] sz0) (kS "sure") = some (.int 2)
      decide +kernel
    · show valV (mergeK [] sz0) (kS "soon") = some (.int 2)
      decide +kernel
    · show valV (mergeK [] sz0) (kS "ahead") = some (.int 2)
      decide +kernel
/-- what a row reads as -/
def rdR (m : Md) (prev : List Ft) : Rw → Option Ft
  | .told x y n => some ⟨false, x, y, n⟩
  | .late k => ltOf ((hs m.wd).map lateF) k
  | .pr z i j => (prev[i]?).bind fun o => (prev[j]?).bind fun p => rPr z o p
  | .sg z i => (prev[i]?).bind fun o => rSg z (hkOf (hs m.wd)) o
/-- rows that stand in their bounds -/
def InB (m : Md) (prev : List Ft) : Rw → Prop
  | .told x y n => [.str x, .str y, .int n] ∈ bRows m
  | .late k => ∃ h ∈ hs m.wd, h.1 = k
  | .pr z i j => (z = "along" ∨ z = "wait") ∧ i < prev.length ∧ j < prev.length
  | .sg z i => (z = "sure" ∨ z = "soon" ∨ z = "ahead") ∧ i < prev.length
theorem InB.ok {m : Md} {prev : List Ft} {r : Rw} (h : InB m prev r) : r.ok := by
  cases r with
  | told x y n => exact True.intro
  | late k => exact True.intro
  | pr z i j => exact h.1
  | sg z i => exact h.1
theorem filter_one : ∀ {l : List (Str × Str × Int × Int)} {h : Str × Str × Int × Int}, (l.map (·.1)).Nodup → h ∈ l → l.filterMap (fun x => if decide (x.1 = h.1) = true then some x.2.2.2 else none) = [h.2.2.2]
  | [], _, _, hm => nomatch hm
  | a :: r, h, nd, hm => by
    have nd : (a.1 :: r.map (·.1)).Nodup := nd
    obtain ⟨n1, n2⟩ := List.nodup_cons.mp nd
    rw [List.filterMap_cons]
    rcases List.mem_cons.mp hm with e | e
    · subst e
      rw [if_pos (decide_eq_true rfl)]
      have e2 : r.filterMap (fun x => if decide (x.1 = h.1) = true then some x.2.2.2 else none) = [] := List.filterMap_eq_nil_iff.mpr fun x hx => by
        rw [if_neg]
        intro z
        exact n1 (List.mem_map.mpr ⟨x, hx, of_decide_eq_true z⟩)
      show _ :: _ = _
      rw [e2]
    · have ne : ¬ a.1 = h.1 := fun z => n1 (by rw [z]; exact List.mem_map.mpr ⟨h, e, rfl⟩)
      rw [if_neg (by rw [decide_eq_true_eq]; exact ne)]
      exact filter_one n2 e
theorem lt_out : ∀ {l : List Ft} {f : Str → Option Ft} {z : Str}, ¬ z ∈ l.map (·.a) → l.foldl ltS f z = f z
  | [], _, _, _ => rfl
  | x :: r, f, z, h => by
    have h1 : ¬ z = x.a := fun e => h (by rw [e]; exact List.mem_cons_self)
    rw [List.foldl_cons, lt_out fun hm => h (List.mem_cons_of_mem _ hm)]
    unfold ltS
    rw [if_neg h1]
theorem lt_at : ∀ {l : List Ft} {f : Str → Option Ft} {x : Ft}, (l.map (·.a)).Nodup → x ∈ l → l.foldl ltS f x.a = some x
  | [], _, _, _, hm => nomatch hm
  | y :: r, f, x, nd, hm => by
    have nd : (y.a :: r.map (·.a)).Nodup := nd
    obtain ⟨n1, n2⟩ := List.nodup_cons.mp nd
    rw [List.foldl_cons]
    rcases List.mem_cons.mp hm with e | e
    · subst e
      rw [lt_out n1]
      unfold ltS
      rw [if_pos rfl]
    · exact lt_at n2 e
theorem late_at {m : Md} {h : Str × Str × Int × Int} (nd : ((hs m.wd).map (·.1)).Nodup) (hm : h ∈ hs m.wd) : ltOf ((hs m.wd).map lateF) h.1 = some (lateF h) := by
  refine lt_at (x := lateF h) ?_ (List.mem_map.mpr ⟨h, hm, rfl⟩)
  rw [List.map_map]
  exact nd
section
variable {P : Program} {w : World} {K : PySem.W.Frag} {mg : Str → Option Value} {base : Heap}
def sp_rrow : Sp := fun vs H Q _ => ∃ (d l t : Addr) (m : Md) (prev : List Ft) (xs : List V) (r : Rw), vs = [.ref d, .ref l, .ref t] ∧ MdAt H d m ∧ (m.own.length ≤ 10 ∧ m.wd.length ≤ 4 ∧ m.bd.length ≤ 40) ∧ (∀ q ∈ bRows m, q.all okV = true) ∧ H l = some (.lst xs) ∧ Rows H xs (prev.map Ft.row) ∧ prev.length ≤ 900 ∧ (∀ o ∈ prev, okSure (hkOf (hs m.wd)) o) ∧ H t = some (.tup r.row) ∧ InB m prev r ∧ ((hs m.wd).map (·.1)).Nodup ∧ MadeS (rdR m prev r) H Q
theorem cal__law_read_row (T : Tp K mg) : Cal P w K mg base 9 "_law_read_row" sp_rrow := by
  obtain ⟨fd, F⟩ := f__law_read_row T
  refine cal_of F (g__law_read_row T) (b__law_read_row F) sc__law_read_row (fun vs H Q E h => ?_) (fun cdv A outer s H vs Q E hr h => ?_)
  · obtain ⟨d, l, t, m, prev, xs, r, rfl, _⟩ := h
    rfl
  · obtain ⟨d, l, t, m, prev, xs, r, rfl, M, lens, okr, hl, R, few, oks, ht, inb, ndh, q⟩ := h
    have hu := hu_of hr
    have hu64 := hr.units
    have hu65 : (cxOf CX0 P w K mg base N__law_read_row "_law_read_row" (defScope s__law_read_row) (He.ga K "_law_read_row") cdv A outer s H E).nox.A.units + 65 < cLine := hr.in1.units
    have rok := inb.ok
    have l2 := r.two
    refine ⟨_, (pss_cons (ps_set (i := 3) sc__law_read_row.nd rfl (.inl rfl) (pe_disp (pps_cons pe_str pe_int (pps_cons pe_str pe_int (pps_cons pe_str pe_int (pps_cons pe_str pe_int (pps_cons pe_str pe_int (pps_cons pe_str pe_int (pps_cons pe_str pe_int pps_nil))))))) (by rfl) (by rfl) (fun z => by cases z) (by decide)))
      (pss_cons (ps_if (PW.pt (pw_or (pt_cmpR op_eq (pe_callB call_len_seq (by rfl) (z_len T) bb_len (pa_cons (pv 2) pa_nil)) pe_int (nomark _)) (pw_or1 (pt_cmpR op_ne (pe_dget2 hu (pv 3) (pe_ix ix_tup (pv 2) pe_int (fun _ _ => rfl)) (pe_un un_neg pe_int) ⟨rfl, rfl, rfl, rfl⟩) (pe_callB call_len_seq (by rfl) (z_len T) bb_len (pa_cons (pv 2) pa_nil)) (nomark _))))) (pss_one (ps_ret pe_non)) pss_nil)
      (pss_cons (ps_if (pt_cmpR op_eq (pe_ix ix_tup (pv 2) pe_int (fun _ _ => rfl)) pe_str (nomark _)) (pss_cons (ps_set (i := 4) sc__law_read_row.nd rfl (.inl rfl) (pe_and (pe_not (pe_callB call_isK (by rfl) (z_isinstance T) bb_isinstance (pa_cons (pe_ix ix_tup (pv 2) pe_int (fun _ _ => rfl)) (pa_cons (pe_bltn (v := .ty "bool") (by rfl) (z_bool T) bb_bool rfl) pa_nil)))) (pe_one (pe_cmpR (op_inD hu65) (pe_slice sl_tup (pv 2) (po_some pe_int) po_none) (C8.pe_c (cal__law_bounds T) hr (by decide) rfl (pa_cons (pv 0) pa_nil)) (by rfl)))))
        (pss_one (ps_ret (pe_ifExp (pt_val (pv 4)) (pe_op op_catU (pe_tup (pa_cons pe_str pa_nil)) (pe_slice sl_tup (pv 2) (po_some pe_int) po_none)) pe_non)))) pss_nil)
      (pss_cons (ps_if (pt_cmpR op_eq (pe_ix ix_tup (pv 2) pe_int (fun _ _ => rfl)) pe_str (nomark _)) (pss_cons (ps_setLc (i := 5) (own := [("_law_wind_here", 7)]) (g := gName 7) rfl sc__law_read_row.nd rfl rfl (sw_true rfl rfl rfl (by decide +kernel)) (pi_list (C8.pe_c (cal__law_heard T) hr (by decide) rfl (pa_cons (pv 0) pa_nil))) (blkOk_by (N := N__law_read_row) (sc := defScope s__law_read_row) (by decide +kernel)) (fun _ _ _ _ _ => (pg_name (i := 7) sc__law_read_row.nd rfl (.inl rfl))) (fun _ _ _ _ _ => (pts_one (pt_cmpR op_eq (pe_ix (ix_tupK (K := K) rfl) (pv 7) pe_int (fun _ _ => rfl)) (pe_ix (ix_tupK (K := K) rfl) (pv 2) pe_int (fun _ _ => rfl)) (nomark _)))) (fun _ _ _ _ _ => (pe_ix (ix_tupK (K := K) rfl) (pv 7) pe_int (fun _ _ => rfl))))
        (pss_one (ps_ret (pe_ifExp (pt_cmpR (op_neD hu64) (pv 5) (pe_lst pa_nil) (nomark _)) (pe_tup (pa_cons pe_str (pa_cons (pe_ix ix_tup (pv 2) pe_int (fun _ _ => rfl)) (pa_cons (pe_ix ix_tup (pv 2) pe_int (fun _ _ => rfl)) (pa_cons (pe_un un_neg (pe_ix ix_list (pv 5) pe_int (fun _ _ => rfl))) pa_nil))))) pe_non)))) pss_nil)
      (pss_cons (ps_for PassesOwn.never rfl (pi_tup (pe_slice sl_tup (pv 2) (po_some pe_int) po_none)) (pg_name (i := 6) sc__law_read_row.nd rfl (.inl rfl))
        (pss_one (ps_if (pt_not (pt_val (C8.pe_c (cal__law_whole T) hr (by decide) rfl (pa_cons (pv 6) (pa_cons pe_int (pa_cons (pe_op op_sub (pe_callB call_len_seq (by rfl) (z_len T) bb_len (pa_cons (pv 1) pa_nil)) pe_int) pa_nil)))))) (pss_one (ps_ret pe_non)) pss_nil)))
      (pss_cons (ps_if (pt_cmpR op_in_seq (pe_ix ix_tup (pv 2) pe_int (fun _ _ => rfl)) (pe_lst (pa_cons pe_str (pa_cons pe_str pa_nil))) (by rfl)) (pss_one (ps_ret (C8.pe_c (cal__law_read_pair T) hr (by decide) rfl (pa_cons (pv 0) (pa_cons (pe_ix ix_tup (pv 2) pe_int (fun _ _ => rfl)) (pa_cons (pe_ix ix_list (pv 1) (pe_ix ix_tup (pv 2) pe_int (fun _ _ => rfl)) (fun _ _ => rfl)) (pa_cons (pe_ix ix_list (pv 1) (pe_ix ix_tup (pv 2) pe_int (fun _ _ => rfl)) (fun _ _ => rfl)) pa_nil))))))) pss_nil)
      (pss_one (ps_ret (C8.pe_c (cal__law_read_one T) hr (by decide) rfl (pa_cons (pv 0) (pa_cons (pe_ix ix_tup (pv 2) pe_int (fun _ _ => rfl)) (pa_cons (pe_ix ix_list (pv 1) (pe_ix ix_tup (pv 2) pe_int (fun _ _ => rfl)) (fun _ _ => rfl)) pa_nil)))))))))))), ?_⟩
    refine fun Z nZ => ⟨upd_same, sz0, rfl, by decide, ?_⟩
    have sZ : Same H (upd (upd H Z (.dK [])) Z (.dK (mergeK [] sz0))) := same_put (same_upd nZ) nZ
    have hZ : upd (upd H Z (.dK [])) Z (.dK (mergeK [] sz0)) Z = some (.dK (mergeK [] sz0)) := upd_same
    generalize upd (upd H Z (.dK [])) Z (.dK (mergeK [] sz0)) = H1 at sZ hZ ⊢
    have ht1 := sZ _ _ ht
    have S : SqT K H1 t r.row := .inl (.inl ht1)
    have M1 := M.same sZ
    refine ⟨_, rfl, t, _, rfl, .inr S, rfl, _, rfl, ?_⟩
    rw [decide_eq_false (show ¬ V.int (r.row.length : Nat) = V.int 0 from fun z => by have := V.int.inj z; omega)]
    refine iteF ⟨_, rfl, Z, rfl, .inl ⟨_, .inl hZ⟩, _, rfl, t, _, 0, .str r.wd, rfl, rfl, S, atI_nat (j := 0) r.first, _, rfl, some (.int (r.row.length : Nat)), .inl ⟨_, kS r.wd, .inl hZ, rfl, (sz_ok rok).symm⟩, _, rfl, t, _, rfl, .inr S, rfl, _, rfl, ?_⟩
    refine iteNS rfl ?_
    refine ⟨_, rfl, t, _, 0, .str r.wd, rfl, rfl, S, atI_nat (j := 0) r.first, rfl, _, rfl, ?_⟩
    by_cases c : ∃ x y n, r = .told x y n
    · obtain ⟨x, y, n, rfl⟩ := c
      have hin : [.str x, .str y, .int n] ∈ bRows m := inb
      have okx := okr _ hin
      rw [decide_eq_true (show V.str (Rw.told x y n).wd = V.str "told" from rfl)]
      refine iteT ⟨_, rfl, t, _, 3, .int n, rfl, rfl, S, atI_nat (j := 3) rfl, _, "bool", "int", rfl, .base (.int _), by decide, by decide, _, rfl, _, rfl, iteT ?_⟩
      refine ⟨_, rfl, 1, rfl, t, _, rfl, S, (by rintro ⟨e, _⟩; cases e), fun k nk => ?_⟩
      have sk := same_upd (o := .tup [.str x, .str y, .int n]) nk
      refine ⟨_, rfl, d, m, rfl, M1.same sk, lens, fun B H2 s2 nB ⟨zs, hB, RB⟩ => ?_⟩
      refine ⟨pdR [.str x, .str y, .int n], (bRows m).map pdR, .tup (.inl (.inl (s2 _ _ upd_same))) (dp_all okx), .lst (.inl (.inl hB)) (dp_rows RB okr), shaped_row okx, shaped_rows okr, ?_⟩
      rw [any_row okx hin]
      have s12 := (sZ.trans sk).trans s2
      refine ⟨_, rfl, _, rfl, iteT ⟨by show 1 ≤ sizeLine; decide, fun a na => ?_⟩⟩
      have sa := s12.trans (same_upd (o := .tup [.str "most"]) na)
      refine ⟨_, rfl, 1, rfl, t, _, rfl, .inl (.inl (sa _ _ ht)), (by rintro ⟨e, _⟩; cases e), fun b nb => ?_⟩
      have sb := same_upd (o := .tup [.str x, .str y, .int n]) nb
      exact ⟨a, b, _, _, rfl, rfl, sb _ _ upd_same, upd_same, by show 1 + 3 ≤ sizeLine; decide, fun u H' s' hu' => q.2 ⟨false, x, y, n⟩ rfl u H' ((sa.trans sb).trans s') hu'⟩
    · rw [decide_eq_false (show ¬ V.str r.wd = V.str "told" from fun z => Rw.not_told rok (fun x y n e => c ⟨x, y, n, e⟩) (V.str.inj z))]
      refine iteF ⟨_, rfl, t, _, 0, .str r.wd, rfl, rfl, S, atI_nat (j := 0) r.first, rfl, _, rfl, ?_⟩
      by_cases cl : ∃ k, r = .late k
      · obtain ⟨k, rfl⟩ := cl
        obtain ⟨h, hm, rfl⟩ := (show ∃ h ∈ hs m.wd, h.1 = k from inb)
        have er : rdR m prev (.late h.1) = some (lateF h) := late_at ndh hm
        rw [er] at q
        rw [decide_eq_true (show V.str (Rw.late h.1).wd = V.str "late" from rfl)]
        have hl4 := hs_len m.wd
        have hw := lens.2.1
        refine iteT ⟨_, rfl, d, m, rfl, M1, by omega, fun L H2 s2 nL ⟨ys, hL, RL⟩ => ⟨L, rfl, ⟨_, .inl (.inl hL)⟩, fun D nD => ?_⟩⟩
        have s12 := sZ.trans s2
        refine lc_pure (hs m.wd) (walk_listN (by rw [RL.len, List.length_map])) (fun x => if decide (x.1 = h.1) = true then some x.2.2.2 else none) (SV V.int) (fun _ h => h) nD (by omega) (fun H s => .inl (.inl (s _ _ hL))) ?_ ?_
        · rintro i x v H3 _ ex s3 ⟨rfl, hv⟩ Good Bad kt kf
          obtain ⟨t', rfl, ht'⟩ := rows_at RL hv ex
          have ht3 := s3 _ _ ht'
          refine ⟨rfl, _, rfl, t', _, 0, _, rfl, rfl, .inl (.inl ht3), atI_nat (j := 0) rfl, _, rfl, t, _, 1, .str h.1, rfl, rfl, .inl (.inl (s3 _ _ (s12 _ _ ht))), atI_nat (j := 1) rfl, rfl, _, rfl, ?_⟩
          have ed : decide (V.str x.1 = V.str h.1) = decide (x.1 = h.1) := by simp
          rw [ed]
          cases e : decide (x.1 = h.1) with
          | true => exact iteT ⟨_, rfl, t', _, 3, _, rfl, rfl, .inl (.inl ht3), atI_nat (j := 3) rfl, kt _ _ _ (by rw [if_pos e]) (Same.refl _) rfl⟩
          | false => exact iteF (kf (by rw [if_neg (by rw [e]; simp)]) _ (Same.refl _))
        · intro H3 acc s3 d3 p3
          have ea := paired_enc p3
          rw [filter_one ndh hm] at ea
          subst ea
          have s13 := s12.trans s3
          have d3 : H3 D = some (.lst [.int h.2.2.2]) := d3
          refine ⟨_, rfl, Nat.zero_le _, fun E nE => ?_⟩
          have sE := same_upd (o := .lst []) nE
          refine ⟨.list [.int h.2.2.2], .list [], .lst (.inl (.inl (sE _ _ d3))) (.cons (.int _) .nil), .lst (.inl (.inl upd_same)) .nil, rfl, rfl, _, rfl, iteT ?_⟩
          have sF := s13.trans sE
          refine ⟨_, rfl, t, _, 1, .str h.1, rfl, rfl, .inl (.inl (sF _ _ ht)), atI_nat (j := 1) rfl, _, rfl, t, _, 1, .str h.1, rfl, rfl, .inl (.inl (sF _ _ ht)), atI_nat (j := 1) rfl, _, rfl, D, _, 0, .int h.2.2.2, rfl, rfl, .inl (.inl (sE _ _ d3)), atI_nat (j := 0) rfl, _, rfl, (by show 4 ≤ sizeLine; decide), fun u nu => ?_⟩
          exact q.2 (lateF h) rfl u _ (sF.trans (same_upd nu)) upd_same
      have nl : ∀ k, r ≠ .late k := fun k e => cl ⟨k, e⟩
      rw [decide_eq_false (show ¬ V.str r.wd = V.str "late" from fun z => Rw.not_late rok nl (V.str.inj z))]
      refine iteF ?_
      have lx : xs.length = prev.length := by rw [R.len, List.length_map]
      have wt : ∀ a : Nat, a < prev.length → whB 0 ((xs.length : Int) - 1) (.int (a : Nat)) = true := fun a ha => decide_eq_true ⟨by omega, by omega⟩
      have hl1 := sZ _ _ hl
      cases r with
      | told x y n => exact (c ⟨x, y, n, rfl⟩).elim
      | late k => exact (nl k rfl).elim
      | pr z i j =>
        obtain ⟨hz, hi, hj⟩ := inb
        obtain ⟨o, eo⟩ : ∃ o, prev[i]? = some o := ⟨_, List.getElem?_eq_getElem hi⟩
        obtain ⟨p, ep⟩ : ∃ p, prev[j]? = some p := ⟨_, List.getElem?_eq_getElem hj⟩
        obtain ⟨x1, e1⟩ : ∃ x, xs[i]? = some x := ⟨_, List.getElem?_eq_getElem (by omega)⟩
        obtain ⟨x2, e2⟩ : ∃ x, xs[j]? = some x := ⟨_, List.getElem?_eq_getElem (by omega)⟩
        obtain ⟨t1, rfl, ht1'⟩ := rows_at R e1 eo
        obtain ⟨t2, rfl, ht2'⟩ := rows_at R e2 ep
        have er : rdR m prev (.pr z i j) = rPr z o p := by
          show ((prev[i]?).bind fun o => (prev[j]?).bind fun p => rPr z o p) = _
          rw [eo, ep]
          rfl
        rw [er] at q
        refine ⟨_, rfl, 1, rfl, t, _, rfl, S, (by rintro ⟨e, _⟩; cases e), fun k nk => ⟨k, rfl, ⟨_, .inl (.inl upd_same)⟩, ?_⟩⟩
        have sk := same_upd (o := .tup [.int (i : Nat), .int (j : Nat)]) nk
        have sA := sZ.trans sk
        refine for_tup (K := K) (a := k) (xs := [.int (i : Nat), .int (j : Nat)]) (fun n σ H' => H' = upd H1 k (.tup [.int (i : Nat), .int (j : Nat)]) ∧ ∃ y6 : Option V, σ = [some (.ref d), some (.ref l), some (.ref t), some (.ref Z), none, none, y6, none]) ⟨rfl, none, rfl⟩ (fun n σ H' _ h => by rw [h.1]; exact .inl (.inl upd_same)) ?_ ?_
        · rintro n v σ H' hv ⟨rfl, y6, rfl⟩
          obtain ⟨a, rfl, ha⟩ : ∃ a : Nat, v = .int (a : Nat) ∧ a < prev.length := by
            have hm := List.mem_of_getElem? hv
            simp only [List.mem_cons, List.not_mem_nil, or_false] at hm
            rcases hm with h | h
            · exact ⟨i, h, hi⟩
            · exact ⟨j, h, hj⟩
          refine ⟨_, rfl, _, rfl, l, xs, rfl, .inl (.inl (.inl (sA _ _ hl))), _, 1, rfl, rfl, .int (a : Nat), 0, _, rfl, rfl, _, rfl, ?_⟩
          rw [wt a ha]
          exact iteF ⟨rfl, _, rfl⟩
        · rintro σ H' ⟨rfl, y6, rfl⟩
          have S2 : SqT K (upd H1 k (.tup [.int (i : Nat), .int (j : Nat)])) t [.str z, .int (i : Nat), .int (j : Nat)] := .inl (.inl (sA _ _ ht))
          refine ⟨_, rfl, t, _, 0, .str z, rfl, rfl, S2, atI_nat (j := 0) rfl, (by show 2 ≤ sizeLine; decide), fun g ng => ⟨g, (["along", "wait"] : List Str).map V.str, rfl, .inl (.inl (.inl upd_same)), rfl, rfl, _, rfl, ?_⟩⟩
          show if inV (.str z) ((["along", "wait"] : List Str).map V.str) = true then _ else _
          rw [in_strs, decide_eq_true (show z ∈ (["along", "wait"] : List Str) by rcases hz with rfl | rfl; exact List.mem_cons_self; exact List.mem_cons_of_mem _ List.mem_cons_self)]
          have sg := sA.trans (same_upd (o := .lst [.str "along", .str "wait"]) ng)
          generalize upd (upd H1 k (.tup [.int (i : Nat), .int (j : Nat)])) g (.lst [.str "along", .str "wait"]) = H3 at sg ⊢
          have S3 : SqT K H3 t [.str z, .int (i : Nat), .int (j : Nat)] := .inl (.inl (sg _ _ ht))
          have L3 : SqL K H3 l xs := .inl (.inl (sg _ _ hl))
          exact iteT ⟨_, rfl, _, rfl, t, _, 0, .str z, rfl, rfl, S3, atI_nat (j := 0) rfl, _, rfl, _, rfl, t, _, 1, .int (i : Nat), rfl, rfl, S3, atI_nat (j := 1) rfl, l, xs, (i : Int), .ref t1, rfl, rfl, L3, atI_nat (j := i) e1, _, rfl, _, rfl, t, _, 2, .int (j : Nat), rfl, rfl, S3, atI_nat (j := 2) rfl, l, xs, (j : Int), .ref t2, rfl, rfl, L3, atI_nat (j := j) e2, t1, t2, .ref d, z, o, p, rfl, sg _ _ ht1', sg _ _ ht2', hz, q.at sg⟩
      | sg z i =>
        obtain ⟨hz, hi⟩ := inb
        obtain ⟨o, eo⟩ : ∃ o, prev[i]? = some o := ⟨_, List.getElem?_eq_getElem hi⟩
        obtain ⟨x1, e1⟩ : ∃ x, xs[i]? = some x := ⟨_, List.getElem?_eq_getElem (by omega)⟩
        obtain ⟨t1, rfl, ht1'⟩ := rows_at R e1 eo
        have er : rdR m prev (.sg z i) = rSg z (hkOf (hs m.wd)) o := by
          show ((prev[i]?).bind fun o => rSg z (hkOf (hs m.wd)) o) = _
          rw [eo]
          rfl
        rw [er] at q
        refine ⟨_, rfl, 1, rfl, t, _, rfl, S, (by rintro ⟨e, _⟩; cases e), fun k nk => ⟨k, rfl, ⟨_, .inl (.inl upd_same)⟩, ?_⟩⟩
        have sk := same_upd (o := .tup [.int (i : Nat)]) nk
        have sA := sZ.trans sk
        refine for_tup (K := K) (a := k) (xs := [.int (i : Nat)]) (fun n σ H' => H' = upd H1 k (.tup [.int (i : Nat)]) ∧ ∃ y6 : Option V, σ = [some (.ref d), some (.ref l), some (.ref t), some (.ref Z), none, none, y6, none]) ⟨rfl, none, rfl⟩ (fun n σ H' _ h => by rw [h.1]; exact .inl (.inl upd_same)) ?_ ?_
        · rintro n v σ H' hv ⟨rfl, y6, rfl⟩
          have ev : v = .int (i : Nat) := List.mem_singleton.mp (List.mem_of_getElem? hv)
          subst ev
          refine ⟨_, rfl, _, rfl, l, xs, rfl, .inl (.inl (.inl (sA _ _ hl))), _, 1, rfl, rfl, .int (i : Nat), 0, _, rfl, rfl, _, rfl, ?_⟩
          rw [wt i hi]
          exact iteF ⟨rfl, _, rfl⟩
        · rintro σ H' ⟨rfl, y6, rfl⟩
          have S2 : SqT K (upd H1 k (.tup [.int (i : Nat)])) t [.str z, .int (i : Nat)] := .inl (.inl (sA _ _ ht))
          refine ⟨_, rfl, t, _, 0, .str z, rfl, rfl, S2, atI_nat (j := 0) rfl, (by show 2 ≤ sizeLine; decide), fun g ng => ⟨g, (["along", "wait"] : List Str).map V.str, rfl, .inl (.inl (.inl upd_same)), rfl, rfl, _, rfl, ?_⟩⟩
          show if inV (.str z) ((["along", "wait"] : List Str).map V.str) = true then _ else _
          have nz : ¬ z ∈ (["along", "wait"] : List Str) := by
            rcases hz with rfl | rfl | rfl <;> decide +kernel
          rw [in_strs, decide_eq_false nz]
          have sg := sA.trans (same_upd (o := .lst [.str "along", .str "wait"]) ng)
          generalize upd (upd H1 k (.tup [.int (i : Nat)])) g (.lst [.str "along", .str "wait"]) = H3 at sg ⊢
          have S3 : SqT K H3 t [.str z, .int (i : Nat)] := .inl (.inl (sg _ _ ht))
          have L3 : SqL K H3 l xs := .inl (.inl (sg _ _ hl))
          exact iteF ⟨_, rfl, _, rfl, t, _, 0, .str z, rfl, rfl, S3, atI_nat (j := 0) rfl, _, rfl, _, rfl, t, _, 1, .int (i : Nat), rfl, rfl, S3, atI_nat (j := 1) rfl, l, xs, (i : Int), .ref t1, rfl, rfl, L3, atI_nat (j := i) e1, d, t1, m, z, o, rfl, M.same sg, lens.2.1, sg _ _ ht1', hz, oks o (List.mem_of_getElem? eo), ⟨fun e H' s' => q.1 e H' (sg.trans s'), fun f e u H' s' hu' => q.2 f e u H' (sg.trans s') hu'⟩⟩
end
end Tw

set_option maxHeartbeats 4000000
namespace Tw
open PySem PySem.Spec PyProof.Rows L2
/-! _law_new_row -/
abbrev words9 : List Str := ["told", "along", "along", "wait", "wait", "sure", "soon", "ahead", "late"]
theorem bR_form {m : Md} {q : List V} (h : q ∈ bRows m) : ∃ (x y : Str) (n : Int), q = [.str x, .str y, .int n] := by
  unfold bRows at h
  rcases List.mem_append.mp h with h | h
  · rcases List.mem_append.mp h with h | h
    · obtain ⟨z, _, hz⟩ := List.mem_flatMap.mp h
      rcases List.mem_cons.mp hz with e | e
      · exact ⟨_, _, _, e⟩
      · exact ⟨_, _, _, List.mem_singleton.mp e⟩
    · obtain ⟨z, _, hz⟩ := List.mem_flatMap.mp h
      rcases List.mem_cons.mp hz with e | e
      · exact ⟨_, _, _, e⟩
      · exact ⟨_, _, _, List.mem_singleton.mp e⟩
  · obtain ⟨z, _, hz⟩ := List.mem_flatMap.mp h
    unfold tieRows at hz
    rcases List.mem_append.mp hz with e | e
    · cases et : z.top with
      | none =>
        rw [et] at e
        cases e
      | some i =>
        rw [et] at e
        exact ⟨_, _, _, List.mem_singleton.mp e⟩
    · cases et : z.bot with
      | none =>
        rw [et] at e
        cases e
      | some i =>
        rw [et] at e
        exact ⟨_, _, _, List.mem_singleton.mp e⟩
theorem bR_ne {m : Md} (h : 0 < m.own.length) : 0 < (bRows m).length := by
  obtain ⟨z, hz⟩ : ∃ z, z ∈ m.own := ⟨m.own[0], List.getElem_mem h⟩
  exact List.length_pos_of_mem (List.mem_append_left _ (List.mem_append_left _ (List.mem_flatMap.mpr ⟨z, hz, List.mem_cons_self⟩)))
theorem bR_heard {m : Md} {h : Str × Str × Int × Int} (hm : h ∈ hs m.wd) : [.str h.2.1, .str h.1, .int h.2.2.2] ∈ bRows m :=
  List.mem_append_left _ (List.mem_append_right _ (List.mem_flatMap.mpr ⟨h, hm, List.mem_cons_self⟩))
theorem row_okV {m : Md} {prev : List Ft} {r : Rw} (okr : ∀ q ∈ bRows m, q.all okV = true) (h : InB m prev r) : r.row.all okV = true := by
  cases r with
  | told x y n =>
    have h1 := okr _ h
    show (okV (.str "told") && ([.str x, .str y, .int n] : List V).all okV) = true
    rw [h1, Bool.and_true]
    decide +kernel
  | late k =>
    obtain ⟨g, hg, rfl⟩ := h
    have h1 := List.all_eq_true.mp (okr _ (bR_heard hg)) (.str g.1) (List.mem_cons_of_mem _ List.mem_cons_self)
    show (okV (.str "late") && (okV (.str g.1) && true)) = true
    rw [h1]
    decide +kernel
  | pr z i j =>
    rcases h.1 with rfl | rfl
    · show (okV (.str "along") && true) = true
      decide +kernel
    · show (okV (.str "wait") && true) = true
      decide +kernel
  | sg z i =>
    rcases h.1 with rfl | rfl | rfl
    · show (okV (.str "sure") && true) = true
      decide +kernel
    · show (okV (.str "soon") && true) = true
      decide +kernel
    · show (okV (.str "ahead") && true) = true
      decide +kernel
theorem walk_rangeN {lo : Int} {n k : Nat} (h : n = k) : Walk (Itr lo n) k (fun _ => True) (YFn fun i => .int (lo + i)) := h ▸ walk_range
theorem b_len {m : Md} (h : m.own.length ≤ 10 ∧ m.wd.length ≤ 4 ∧ m.bd.length ≤ 40) : (bRows m).length ≤ 108 := by
  unfold bRows
  rw [List.length_append, List.length_append]
  have h1 := fm_len (mRows m.last) 2 (fun _ => Nat.le_refl _) m.own
  have h2 := fm_len h2Rows 2 (fun _ => Nat.le_refl _) (hs m.wd)
  have h3 := fm_len (tieRows m.wd) 2 (tie_len m.wd) m.bd
  have h4 := hs_len m.wd
  omega
section
variable {P : Program} {w : World} {K : PySem.W.Frag} {mg : Str → Option Value} {base : Heap}
/-- what stands: the model, the facts -/
structure Sd (H : Hp) (d l : Addr) (m : Md) (prev : List Ft) (xs : List V) : Prop where
  md : MdAt H d m
  ls : H l = some (.lst xs)
  rw : Rows H xs (prev.map Ft.row)
theorem Sd.same {H H' : Hp} {d l : Addr} {m : Md} {prev : List Ft} {xs : List V} (h : Sd H d l m prev xs) (s : Same H H') : Sd H' d l m prev xs := ⟨h.md.same s, s _ _ h.ls, h.rw.keep (Kt.of s)⟩
theorem Sd.sb {H H' : Hp} {f c d l : Addr} {m : Md} {prev : List Ft} {xs : List V} (h : Sd H d l m prev xs) (F : Flow H f c) (s : Sb f H H') : Sd H' d l m prev xs := by
  obtain ⟨zs, hf⟩ := F.lst
  exact ⟨h.md.sb F s, s _ _ h.ls (rows_flow F h.ls h.rw), h.rw.keep (s.kt hf)⟩
structure Fix (m : Md) (prev : List Ft) : Prop where
  lens : m.own.length ≤ 10 ∧ m.wd.length ≤ 4 ∧ m.bd.length ≤ 40
  okr : ∀ q ∈ bRows m, q.all okV = true
  few : prev.length ≤ 16
  oks : ∀ o ∈ prev, okSure (hkOf (hs m.wd)) o
  ndh : ((hs m.wd).map (·.1)).Nodup
  own : 0 < m.own.length
def sp_new : Sp := fun vs H Q _ => ∃ (f c d l : Addr) (m : Md) (prev : List Ft) (xs : List V), vs = [.ref f, .ref d, .ref l] ∧ Flow H f c ∧ Sd H d l m prev xs ∧ Fix m prev ∧
  ∀ (t : Addr) (r : Rw) (g : Ft) (H' : Hp), Sb f H H' → Flow H' f c → H' t = some (.tup r.row) → InB m prev r → rdR m prev r = some g → Q (.ref t) H'
theorem cal__law_new_row (T : Tp K mg) : Cal P w K mg base 10 "_law_new_row" sp_new := by
  obtain ⟨fd, F⟩ := f__law_new_row T
  refine cal_of F (g__law_new_row T) (b__law_new_row F) sc__law_new_row (fun vs H Q E h => ?_) (fun cdv A outer s H vs Q E hr h => ?_)
  · obtain ⟨f, c, d, l, m, prev, xs, rfl, _⟩ := h
    rfl
  · obtain ⟨f, c, d, l, m, prev, xs, rfl, FL, D, X, q⟩ := h
    have hu := hu_of hr
    have hu64 := hr.units
    have lx : xs.length = prev.length := by rw [D.rw.len, List.length_map]
    have few := X.few
    refine ⟨_, (pss_cons (ps_set (i := 3) sc__law_new_row.nd rfl (.inr rfl) (C8.pe_c (cal__law_pick T) hr (by decide) rfl (pa_cons (pv 0) (pa_cons (pe_lst (pa_cons pe_str (pa_cons pe_str (pa_cons pe_str (pa_cons pe_str (pa_cons pe_str (pa_cons pe_str (pa_cons pe_str (pa_cons pe_str (pa_cons pe_str pa_nil)))))))))) pa_nil))))
      (pss_cons (ps_set (i := 4) sc__law_new_row.nd rfl (.inl rfl) (pe_lst pa_nil))
      (C8.pss_cut (ps_if (pt_cmpR op_in_seq (pv 3) (pe_lst (pa_cons pe_str (pa_cons pe_str pa_nil))) (by rfl)) (pss_one (ps_for PassesOwn.never rfl (pi_range1 rfl (z_range T) (pa_cons (pe_callB call_len_seq (by rfl) (z_len T) bb_len (pa_cons (pv 2) pa_nil)) pa_nil)) (pg_name (i := 5) sc__law_new_row.nd rfl (.inr rfl))
          (pss_one (ps_set (i := 4) sc__law_new_row.nd rfl (.inl rfl) (pe_op op_cat (pv 4) (pe_lc (own := [("_law_other", 7)]) (g := gName 7) (tt := tYes) rfl sc__law_new_row.nd (pi_range1 rfl (z_range T) (pa_cons (pe_callB call_len_seq (by rfl) (z_len T) bb_len (pa_cons (pv 2) pa_nil)) pa_nil)) (blkOk_by (N := N__law_new_row) (sc := defScope s__law_new_row) (by decide +kernel)) (fun _ _ _ _ _ => (pg_name (i := 7) sc__law_new_row.nd rfl (.inl rfl))) (fun _ _ _ _ _ => pts_nil) (fun _ _ _ _ _ => (pe_tup (pa_cons (pv 3) (pa_cons (pv 5) (pa_cons (pv 7) pa_nil))))))))))) (pss_one (ps_if (PW.pt (pw_and (pt_cmpR op_ne (pv 3) pe_str (nomark _)) (pw_and1 (pt_cmpR op_ne (pv 3) pe_str (nomark _))))) (pss_one (ps_setLc (i := 4) (own := [("_law_one", 5)]) (g := gName 5) (tt := tYes) rfl sc__law_new_row.nd rfl rfl (sw_true rfl rfl rfl (by decide +kernel)) (pi_range1 rfl (z_range T) (pa_cons (pe_callB call_len_seq (by rfl) (z_len T) bb_len (pa_cons (pv 2) pa_nil)) pa_nil)) (blkOk_by (N := N__law_new_row) (sc := defScope s__law_new_row) (by decide +kernel)) (fun _ _ _ _ _ => (pg_name (i := 5) sc__law_new_row.nd rfl (.inl rfl))) (fun _ _ _ _ _ => pts_nil) (fun _ _ _ _ _ => (pe_tup (pa_cons (pv 3) (pa_cons (pv 5) pa_nil)))))) (pss_one (ps_if (pt_cmpR op_eq (pv 3) pe_str (nomark _)) (pss_one (ps_setLc (i := 4) (own := [("_law_wind_here", 8)]) (g := gName 8) (tt := tYes) rfl sc__law_new_row.nd rfl rfl (sw_true rfl rfl rfl (by decide +kernel)) (pi_list (C8.pe_c (cal__law_heard T) hr (by decide) rfl (pa_cons (pv 1) pa_nil))) (blkOk_by (N := N__law_new_row) (sc := defScope s__law_new_row) (by decide +kernel)) (fun _ _ _ _ _ => (pg_name (i := 8) sc__law_new_row.nd rfl (.inl rfl))) (fun _ _ _ _ _ => pts_nil) (fun _ _ _ _ _ => (pe_tup (pa_cons (pv 3) (pa_cons (pe_ix (ix_tupK (K := K) rfl) (pv 8) pe_int (fun _ _ => rfl)) pa_nil)))))) pss_nil)))))
      (pss_cons (ps_setLc (i := 6) (own := [("_law_row", 9)]) (g := gName 9) rfl sc__law_new_row.nd rfl rfl (sw_true rfl rfl rfl (by decide +kernel)) (pi_list (pv 4)) (blkOk_by (N := N__law_new_row) (sc := defScope s__law_new_row) (by decide +kernel)) (fun _ _ _ _ _ => (pg_name (i := 9) sc__law_new_row.nd rfl (.inl rfl))) (fun _ _ _ _ _ => (pts_one (pt_cmpR op_notN (C8.pe_c (cal__law_read_row T) hr (by decide) rfl (pa_cons (pv 1) (pa_cons (pv 2) (pa_cons (pv 9) pa_nil)))) pe_non (nomark _)))) (fun _ _ _ _ _ => (pv 9)))
      (pss_cons (ps_if (pt_cmpR (op_eqD hu64) (pv 6) (pe_lst pa_nil) (nomark _)) (pss_one (ps_ret (pe_op op_catU (pe_tup (pa_cons pe_str pa_nil)) (C8.pe_c (cal__law_pick T) hr (by decide) rfl (pa_cons (pv 0) (pa_cons (C8.pe_c (cal__law_bounds T) hr (by decide) rfl (pa_cons (pv 1) pa_nil)) pa_nil)))))) pss_nil)
      (pss_one (ps_ret (C8.pe_c (cal__law_pick T) hr (by decide) rfl (pa_cons (pv 0) (pa_cons (pv 6) pa_nil)))))))))), ?_⟩
    refine ⟨_, rfl, (by show 9 ≤ sizeLine; decide), fun W nW => ?_⟩
    have sW := same_upd (o := .lst (words9.map V.str)) nW
    obtain ⟨zs, hf⟩ := FL.lst
    refine ⟨f, c, W, words9.map V.str, rfl, FL.same sW, upd_same, (ne_of_none hf nW).symm, by show 0 < 9; decide, by show 9 ≤ 1000; decide, fun v H2 hv sb2 F2 => ?_⟩
    obtain ⟨z, hz, rfl⟩ := List.mem_map.mp hv
    have sb02 := (Sb.of sW).trans sb2
    have D2 := (D.same sW).sb (FL.same sW) sb2
    refine ⟨Nat.zero_le _, fun E0 nE0 => ?_⟩
    have sE := same_upd (o := .lst []) nE0
    have D3 := D2.same sE
    have hE : upd H2 E0 (.lst []) E0 = some (.lst []) := upd_same
    have F3 := F2.same sE
    have sb3 := sb02.trans (Sb.of sE)
    generalize upd H2 E0 (.lst []) = H3 at sE D3 hE F3 sb3 ⊢
    refine ⟨fun σ' H' => ∃ (Tt : Addr) (ts : List V) (rws : List Rw) (y5 : Option V), σ' = [some (.ref f), some (.ref d), some (.ref l), some (.str z), some (.ref Tt), y5, none, none, none, none] ∧ Same H3 H' ∧ H' Tt = some (.lst ts) ∧ Rows H' ts (rws.map Rw.row) ∧ (∀ r ∈ rws, InB m prev r) ∧ rws.length ≤ 256, ?_, ?_⟩
    · refine ⟨_, rfl, (by show 2 ≤ sizeLine; decide), fun g ng => ⟨g, (["along", "wait"] : List Str).map V.str, rfl, .inl (.inl (.inl upd_same)), rfl, rfl, _, rfl, ?_⟩⟩
      show if inV (.str z) ((["along", "wait"] : List Str).map V.str) = true then _ else _
      rw [in_strs]
      have sg := same_upd (o := .lst [.str "along", .str "wait"]) ng
      have D4 := D3.same sg
      have hE4 := sg _ _ hE
      by_cases cz : z ∈ (["along", "wait"] : List Str)
      · rw [decide_eq_true cz]
        have hz2 : z = "along" ∨ z = "wait" := by
          rcases List.mem_cons.mp cz with h | h
          · exact .inl h
          · exact .inr (List.mem_singleton.mp h)
        refine iteT ⟨_, rfl, l, xs, rfl, .inl (.inl (.inl D4.ls)), _, rfl, by omega, by omega, ?_⟩
        refine for_range (lo := 0) (n := xs.length) (fun i σ H' => ∃ (Tt : Addr) (ts : List V) (rws : List Rw) (y5 : Option V), σ = [some (.ref f), some (.ref d), some (.ref l), some (.str z), some (.ref Tt), y5, none, none, none, none] ∧ Same H3 H' ∧ H' Tt = some (.lst ts) ∧ Rows H' ts (rws.map Rw.row) ∧ (∀ r ∈ rws, InB m prev r) ∧ rws.length ≤ i * 16) ⟨E0, [], [], none, rfl, sg, hE4, .nil, (fun r hr => nomatch hr), Nat.zero_le _⟩ ?_ ?_
        · rintro i σ H' hi ⟨Tt, ts, rws, y5, rfl, s4, hT, RT, inb, lr⟩
          have D5 := D3.same s4
          refine ⟨_, rfl, _, rfl, l, xs, rfl, .inl (.inl (.inl D5.ls)), _, rfl, by omega, by omega, fun G nG => ?_⟩
          refine lc_pure (List.range xs.length) (walk_rangeN (by rw [List.length_range]; exact Int.toNat_natCast _)) (fun j => some (Rw.pr z i j)) (SR Rw.row) sr_k nG (by rw [List.length_range]; omega) (fun _ _ => True.intro) ?_ ?_
          · rintro j a v H5 _ ea s5 ⟨rfl, rfl⟩ Good Bad kt kf
            have ej : a = j := by
              rw [List.getElem?_range (by have := (List.getElem?_eq_some_iff.mp ea).1; rwa [List.length_range] at this)] at ea
              exact (Option.some.inj ea).symm
            subst ej
            refine ⟨rfl, yes_i (iteT ⟨_, rfl, _, rfl, _, rfl, (by show 3 ≤ sizeLine; decide), fun u nu => ?_⟩)⟩
            refine kt _ _ _ rfl (same_upd nu) ⟨u, rfl, ?_⟩
            rw [upd_same]
            show some (HO.tup [.str z, .int (0 + (i : Int)), .int (0 + (a : Int))]) = some (HO.tup [.str z, .int (i : Nat), .int (a : Nat)])
            rw [Int.zero_add, Int.zero_add]
          · intro H5 acc s5 d5 p5
            rw [show ((List.range xs.length).filterMap fun j => some (Rw.pr z i j)) = (List.range xs.length).map (Rw.pr z i) from List.filterMap_eq_map ▸ rfl] at p5
            have r5 := paired_rows p5
            have la : acc.length = xs.length := by rw [r5.len, List.length_map, List.length_map, List.length_range]
            have lt : ts.length = rws.length := by rw [RT.len, List.length_map]
            have l16 : i * 16 ≤ 256 := by
              have : i ≤ 16 := by omega
              omega
            refine ⟨Tt, G, ts, acc, rfl, rfl, s5 _ _ hT, d5, Nat.le_of_lt (small1000 (by omega)), fun U nU => ?_⟩
            have sU := same_upd (o := .lst (ts ++ acc)) nU
            obtain ⟨zs, h1, h2⟩ := rows_cat (D := Tt) (E := G) (RT.keep (Kt.of s5)) r5 nU
            have ez : zs = ts ++ acc := by
              rw [upd_same] at h1
              injection h1 with h1
              injection h1 with h1
              exact h1.symm
            refine ⟨U, zs, rws ++ (List.range xs.length).map (Rw.pr z i), _, rfl, (s4.trans s5).trans sU, h1, by rw [List.map_append]; exact h2, fun r hr => ?_, ?_⟩
            · rcases List.mem_append.mp hr with h | h
              · exact inb r h
              · obtain ⟨j, hj, rfl⟩ := List.mem_map.mp h
                exact ⟨hz2, by omega, by have := List.mem_range.mp hj; omega⟩
            · rw [List.length_append, List.length_map, List.length_range, Nat.succ_mul]
              omega
        · rintro σ H' ⟨Tt, ts, rws, y5, rfl, s4, hT, RT, inb, lr⟩
          exact ⟨Tt, ts, rws, _, rfl, s4, hT, RT, inb, by omega⟩
      · rw [decide_eq_false cz]
        refine iteF ?_
        by_cases c3 : z = "told" ∨ z = "late"
        · refine ⟨_, rfl, rfl, _, rfl, ?_⟩
          rcases c3 with rfl | rfl
          · rw [show (!decide (V.str "told" = V.str "told")) = false from rfl]
            refine iteF ⟨_, rfl, rfl, _, rfl, ?_⟩
            rw [show decide (V.str "told" = V.str "late") = false from rfl]
            exact iteF ⟨E0, [], [], none, rfl, sg, hE4, .nil, (fun r hr => nomatch hr), Nat.zero_le _⟩
          · rw [show (!decide (V.str "late" = V.str "told")) = true from rfl]
            refine iteT ⟨_, rfl, rfl, _, rfl, ?_⟩
            rw [show (!decide (V.str "late" = V.str "late")) = false from rfl]
            refine iteF ⟨_, rfl, rfl, _, rfl, ?_⟩
            rw [show decide (V.str "late" = V.str "late") = true from rfl]
            refine iteT ?_
            have wl := X.lens.2.1
            have lh := hs_len m.wd
            refine ⟨_, rfl, d, m, rfl, D4.md, by omega, fun L HL sL nL RL => ?_⟩
            obtain ⟨ls, hL, RL⟩ := RL
            refine ⟨L, rfl, ⟨_, .inl (.inl hL)⟩, fun G nG => ?_⟩
            refine lc_pure (hs m.wd) (walk_listN (by rw [RL.len, List.length_map])) (fun h => some (Rw.late h.1)) (SR Rw.row) sr_k nG (by omega) (fun H s => .inl (.inl (s _ _ hL))) ?_ ?_
            · rintro j h v H5 _ eh s5 ⟨rfl, hv⟩ Good Bad kt kf
              obtain ⟨t', rfl, ht'⟩ := rows_at RL hv eh
              refine ⟨rfl, yes_i (iteT ⟨_, rfl, _, rfl, t', _, 0, .str h.1, rfl, rfl, .inl (.inl (s5 _ _ ht')), atI_nat (j := 0) rfl, (by show 2 ≤ sizeLine; decide), fun u nu => ?_⟩)⟩
              exact kt _ _ _ rfl (same_upd nu) ⟨u, rfl, upd_same⟩
            · intro H5 acc s5 d5 p5
              rw [show ((hs m.wd).filterMap fun h => some (Rw.late h.1)) = (hs m.wd).map (fun h => Rw.late h.1) from List.filterMap_eq_map ▸ rfl] at p5
              have r5 := paired_rows p5
              refine ⟨G, acc, (hs m.wd).map (fun h => Rw.late h.1), _, rfl, (sg.trans sL).trans s5, d5, r5, fun r hr => ?_, ?_⟩
              · obtain ⟨h, hh, rfl⟩ := List.mem_map.mp hr
                exact ⟨h, hh, rfl⟩
              · rw [List.length_map]
                omega
        · have hz3 : z = "sure" ∨ z = "soon" ∨ z = "ahead" := by
            simp only [words9, List.mem_cons, List.not_mem_nil, or_false] at hz cz
            rcases hz with rfl | rfl | rfl | rfl | rfl | rfl | rfl | rfl | rfl
            · exact absurd (.inl rfl) c3
            · exact absurd (.inl rfl) cz
            · exact absurd (.inl rfl) cz
            · exact absurd (.inr rfl) cz
            · exact absurd (.inr rfl) cz
            · exact .inl rfl
            · exact .inr (.inl rfl)
            · exact .inr (.inr rfl)
            · exact absurd (.inr rfl) c3
          refine ⟨_, rfl, rfl, _, rfl, ?_⟩
          rw [decide_eq_false (show ¬ V.str z = V.str "told" from fun e => c3 (.inl (V.str.inj e)))]
          refine iteT ⟨_, rfl, rfl, _, rfl, ?_⟩
          rw [decide_eq_false (show ¬ V.str z = V.str "late" from fun e => c3 (.inr (V.str.inj e)))]
          refine iteT ⟨_, rfl, l, xs, rfl, .inl (.inl (.inl D4.ls)), _, rfl, by omega, by omega, fun G nG => ?_⟩
          refine lc_pure (List.range xs.length) (walk_rangeN (by rw [List.length_range]; exact Int.toNat_natCast _)) (fun j => some (Rw.sg z j)) (SR Rw.row) sr_k nG (by rw [List.length_range]; omega) (fun _ _ => True.intro) ?_ ?_
          · rintro j a v H5 _ ea s5 ⟨rfl, rfl⟩ Good Bad kt kf
            have ej : a = j := by
              rw [List.getElem?_range (by have := (List.getElem?_eq_some_iff.mp ea).1; rwa [List.length_range] at this)] at ea
              exact (Option.some.inj ea).symm
            subst ej
            refine ⟨rfl, yes_i (iteT ⟨_, rfl, _, rfl, (by show 2 ≤ sizeLine; decide), fun u nu => ?_⟩)⟩
            refine kt _ _ _ rfl (same_upd nu) ⟨u, rfl, ?_⟩
            rw [upd_same]
            show some (HO.tup [.str z, .int (0 + (a : Int))]) = some (HO.tup [.str z, .int (a : Nat)])
            rw [Int.zero_add]
          · intro H5 acc s5 d5 p5
            rw [show ((List.range xs.length).filterMap fun j => some (Rw.sg z j)) = (List.range xs.length).map (Rw.sg z) from List.filterMap_eq_map ▸ rfl] at p5
            have r5 := paired_rows p5
            refine ⟨G, acc, (List.range xs.length).map (Rw.sg z), _, rfl, sg.trans s5, d5, r5, fun r hr => ?_, ?_⟩
            · obtain ⟨j, hj, rfl⟩ := List.mem_map.mp hr
              exact ⟨hz3, by have := List.mem_range.mp hj; omega⟩
            · rw [List.length_map, List.length_range]
              omega
    · rintro σ' H4 ⟨Tt, ts, rws, y5, rfl, s4, hT, RT, inb, lr⟩
      have D4 := D3.same s4
      refine ⟨_, rfl, Tt, rfl, ⟨_, .inl (.inl hT)⟩, fun G nG => ?_⟩
      refine lc_pure rws (walk_listN (by rw [RT.len, List.length_map])) (fun r => if (rdR m prev r).isSome = true then some r else none) (SR Rw.row) sr_k nG (by omega) (fun H s => .inl (.inl (s _ _ hT))) ?_ ?_
      · rintro i r v H5 _ er s5 ⟨rfl, hv⟩ Good Bad kt kf
        obtain ⟨t, rfl, ht⟩ := rows_at RT hv er
        have D5 := D4.same s5
        have ht5 := s5 _ _ ht
        refine ⟨rfl, _, rfl, _, rfl, _, rfl, d, l, t, m, prev, xs, r, rfl, D5.md, X.lens, X.okr, D5.ls, D5.rw, by omega, X.oks, ht5, inb r (List.mem_of_getElem? er), X.ndh, ⟨fun e H' s' => ⟨rfl, _, rfl, ?_⟩, fun g e u H' s' hu' => ⟨rfl, _, rfl, ?_⟩⟩⟩
        · rw [decide_eq_true (show V.non = V.non from rfl)]
          exact iteF (kf (by rw [if_neg (by rw [e]; intro z; cases z)]) _ s')
        · rw [decide_eq_false (show ¬ V.ref u = V.non from fun z => by cases z)]
          exact iteT ⟨_, rfl, kt _ _ _ (by rw [if_pos (by rw [e]; rfl)]) s' ⟨t, rfl, s' _ _ ht5⟩⟩
      · intro H5 acc s5 d5 p5
        have r5 := paired_rows p5
        have D5 := D4.same s5
        have F5 := (F3.same s4).same s5
        have sb5 := sb3.trans (Sb.of (s4.trans s5))
        have gin : ∀ r ∈ rws.filterMap (fun r => if (rdR m prev r).isSome = true then some r else none), InB m prev r ∧ ∃ g, rdR m prev r = some g := fun r hr => by
          obtain ⟨r', h1, h2⟩ := List.mem_filterMap.mp hr
          by_cases c : (rdR m prev r').isSome = true
          · rw [if_pos c] at h2
            cases h2
            exact ⟨inb _ h1, Option.isSome_iff_exists.mp c⟩
          · rw [if_neg c] at h2
            cases h2
        have lg : (rws.filterMap (fun r => if (rdR m prev r).isSome = true then some r else none)).length ≤ 256 := Nat.le_trans (List.length_filterMap_le _ _) lr
        generalize rws.filterMap (fun r => if (rdR m prev r).isSome = true then some r else none) = gs at r5 gin lg
        have okg : ∀ q ∈ gs.map Rw.row, q.all okV = true := fun q hq => by
          obtain ⟨r, hr, rfl⟩ := List.mem_map.mp hq
          exact row_okV X.okr (gin r hr).1
        refine ⟨_, rfl, Nat.zero_le _, fun E1 nE1 => ?_⟩
        have s6 := same_upd (o := .lst []) nE1
        refine ⟨.list ((gs.map Rw.row).map pdR), .list [], .lst (.inl (.inl (s6 _ _ d5))) (dp_rows (r5.keep (Kt.of s6)) okg), .lst (.inl (.inl upd_same)) .nil, shaped_rows okg, rfl, _, rfl, ?_⟩
        have D6 := D5.same s6
        have F6 := F5.same s6
        have sb6 := sb5.trans (Sb.of s6)
        have hG6 := s6 _ _ d5
        have R6 := r5.keep (Kt.of s6)
        generalize upd H5 E1 (.lst []) = H6 at s6 D6 F6 sb6 hG6 R6 ⊢
        obtain ⟨zs6, hf6⟩ := F6.lst
        cases gs with
        | nil =>
          refine iteT ⟨by show 1 ≤ sizeLine; decide, fun a na => ?_⟩
          have sa := same_upd (o := .tup [.str "told"]) na
          refine ⟨_, rfl, _, rfl, d, m, rfl, (D6.same sa).md, X.lens, fun B H7 s7 nB ⟨ys, hB, RB⟩ => ?_⟩
          have s67 := sa.trans s7
          have F7 := F6.same s67
          have ly : ys.length = (bRows m).length := RB.len
          have lb : ys.length ≤ 1000 := by
            have := b_len X.lens
            omega
          refine ⟨f, c, B, ys, rfl, F7, hB, rows_flow F7 hB RB, by rw [ly]; exact bR_ne X.own, lb, fun v H8 hv sb8 F8 => ?_⟩
          obtain ⟨i, hi⟩ := List.getElem?_of_mem hv
          obtain ⟨t, row, rfl, hrow, ht⟩ := RB.at hi
          obtain ⟨x, y, n, rfl⟩ := bR_form (List.mem_of_getElem? hrow)
          obtain ⟨zs7, hf7⟩ := F7.lst
          have kt8 := sb8.kt hf7
          refine ⟨a, t, _, _, rfl, rfl, kt8 _ _ (s7 _ _ upd_same), kt8 _ _ ht, by show 1 + 3 ≤ sizeLine; decide, fun u H' s' hu' => ?_⟩
          exact q u (.told x y n) ⟨false, x, y, n⟩ H' (((sb6.trans (Sb.of s67)).trans sb8).trans (Sb.of s')) (F8.same s') hu' (List.mem_of_getElem? hrow) rfl
        | cons r0 gs' =>
          have la : acc.length = (r0 :: gs').length := by rw [R6.len, List.length_map]
          refine iteF ⟨_, rfl, _, rfl, f, c, G, acc, rfl, F6, hG6, rows_flow F6 hG6 R6, by rw [la]; exact Nat.succ_pos _, by rw [la]; exact Nat.le_trans lg (by decide), fun v H7 hv sb7 F7 => ?_⟩
          obtain ⟨i, hi⟩ := List.getElem?_of_mem hv
          obtain ⟨t, row, rfl, hrow, ht⟩ := R6.at hi
          rw [List.getElem?_map] at hrow
          cases er : (r0 :: gs')[i]? with
          | none =>
            rw [er] at hrow
            cases hrow
          | some r =>
            rw [er] at hrow
            cases hrow
            obtain ⟨h1, g, h2⟩ := gin r (List.mem_of_getElem? er)
            exact q t r g H7 (sb6.trans sb7) F7 (sb7.kt hf6 _ _ ht) h1 h2
end
end Tw

set_option maxHeartbeats 4000000
namespace Tw
open PySem PySem.Spec PyProof.Rows L2
/-! _law_some_rows -/
theorem hk_some : ∀ {l : List (Str × Str × Int × Int)} {f : Hk} {z : Str}, (f z).isSome = true ∨ z ∈ l.map (·.1) → (l.foldl hkS f z).isSome = true
  | [], _, _, h => by
    rcases h with h | h
    · exact h
    · cases h
  | x :: r, f, z, h => by
    rw [List.foldl_cons]
    refine hk_some ?_
    by_cases c : z = x.1
    · refine .inl ?_
      unfold hkS
      rw [if_pos c]
      rfl
    · rcases h with h | h
      · refine .inl ?_
        unfold hkS
        rw [if_neg c]
        exact h
      · rcases List.mem_cons.mp h with h | h
        · exact absurd h c
        · exact .inr h
theorem step_of {m : Md} {prev : List Ft} {r : Rw} {g : Ft} (oks : ∀ o ∈ prev, okSure (hkOf (hs m.wd)) o) (ib : InB m prev r) (e : rdR m prev r = some g) : Step m prev g r := by
  cases r with
  | told x y n => exact ⟨ib, (Option.some.inj e).symm⟩
  | late k => exact e
  | pr z i j =>
    obtain ⟨o, h1, h2⟩ := Option.bind_eq_some_iff.mp e
    obtain ⟨p, h3, h4⟩ := Option.bind_eq_some_iff.mp h2
    exact ⟨ib.1, o, p, h1, h3, h4⟩
  | sg z i =>
    obtain ⟨o, h1, h2⟩ := Option.bind_eq_some_iff.mp e
    exact ⟨ib.1, o, h1, oks o (List.mem_of_getElem? h1), h2⟩
theorem sure_of {m : Md} {prev : List Ft} {r : Rw} {g : Ft} (nd : ((hs m.wd).map (·.1)).Nodup) (oks : ∀ o ∈ prev, okSure (hkOf (hs m.wd)) o) (ib : InB m prev r) (e : rdR m prev r = some g) : okSure (hkOf (hs m.wd)) g := by
  intro hu
  cases r with
  | told x y n =>
    cases e
    cases hu
  | late k =>
    obtain ⟨h, hm, rfl⟩ := ib
    have e2 : rdR m prev (.late h.1) = some (lateF h) := late_at nd hm
    rw [e2] at e
    cases e
    exact hk_some (.inr (List.mem_map.mpr ⟨h, hm, rfl⟩))
  | pr z i j =>
    obtain ⟨o, h1, h2⟩ := Option.bind_eq_some_iff.mp e
    obtain ⟨p, h3, h4⟩ := Option.bind_eq_some_iff.mp h2
    unfold rPr at h4
    by_cases c : z = "along"
    · rw [if_pos c] at h4
      unfold rAlong at h4
      by_cases d : o.u = false ∧ p.u = false ∧ o.b = p.a
      · rw [if_pos d] at h4
        cases h4
        cases hu
      · rw [if_neg d] at h4
        cases h4
    · rw [if_neg c] at h4
      unfold rWait at h4
      by_cases d : o.u = false ∧ p.u = true ∧ o.b = p.b
      · rw [if_pos d] at h4
        cases h4
        exact oks p (List.mem_of_getElem? h3) d.2.1
      · rw [if_neg d] at h4
        cases h4
  | sg z i =>
    obtain ⟨o, h1, h2⟩ := Option.bind_eq_some_iff.mp e
    unfold rSg at h2
    by_cases c : z = "sure"
    · rw [if_pos c] at h2
      unfold rSure at h2
      by_cases d : o.u = true
      · rw [if_pos d] at h2
        obtain ⟨y, _, rfl⟩ := Option.map_eq_some_iff.mp h2
        cases hu
      · rw [if_neg d] at h2
        cases h2
    · rw [if_neg c] at h2
      by_cases c2 : z = "soon"
      · rw [if_pos c2] at h2
        unfold rSoon at h2
        by_cases d : o.u = false ∧ o.n < 0
        · rw [if_pos d] at h2
          obtain ⟨y, _, rfl⟩ := Option.map_eq_some_iff.mp h2
          cases hu
        · rw [if_neg d] at h2
          cases h2
      · rw [if_neg c2] at h2
        unfold rAhead at h2
        by_cases d : o.u = true ∧ ¬ o.a = o.b ∧ o.n < 0
        · rw [if_pos d] at h2
          obtain ⟨y, _, rfl⟩ := Option.map_eq_some_iff.mp h2
          exact oks o (List.mem_of_getElem? h1) d.1
        · rw [if_neg d] at h2
          cases h2
/-- rows and what they read as, one by one -/
structure Red (m : Md) (rws : List Rw) (fs : List Ft) : Prop where
  len : fs.length = rws.length
  st : ∀ i r, rws[i]? = some r → ∃ f, fs[i]? = some f ∧ Step m (fs.take i) f r
  oks : ∀ o ∈ fs, okSure (hkOf (hs m.wd)) o
theorem Red.nil {m : Md} : Red m [] [] := ⟨rfl, (fun i r e => nomatch e), fun o h => nomatch h⟩
theorem Red.snoc {m : Md} {rws : List Rw} {fs : List Ft} {r : Rw} {g : Ft} (h : Red m rws fs) (nd : ((hs m.wd).map (·.1)).Nodup) (ib : InB m fs r) (e : rdR m fs r = some g) : Red m (rws ++ [r]) (fs ++ [g]) := by
  refine ⟨by rw [List.length_append, List.length_append, h.len]; rfl, fun i q eq => ?_, fun o ho => ?_⟩
  · by_cases c : i < rws.length
    · rw [List.getElem?_append_left c] at eq
      obtain ⟨f, h1, h2⟩ := h.st i q eq
      have li : i < fs.length := by rw [h.len]; exact c
      refine ⟨f, by rw [List.getElem?_append_left li]; exact h1, ?_⟩
      rw [List.take_append_of_le_length (Nat.le_of_lt li)]
      exact h2
    · have ei : i = rws.length := by
        have := (List.getElem?_eq_some_iff.mp eq).1
        rw [List.length_append] at this
        have h1 : ([r] : List Rw).length = 1 := rfl
        omega
      subst ei
      rw [List.getElem?_append_right (Nat.le_refl _), Nat.sub_self] at eq
      cases eq
      refine ⟨g, by rw [← h.len, List.getElem?_append_right (Nat.le_refl _), Nat.sub_self]; rfl, ?_⟩
      rw [← h.len, List.take_append_of_le_length (Nat.le_refl _), List.take_length]
      exact step_of h.oks ib e
  · rcases List.mem_append.mp ho with ho | ho
    · exact h.oks o ho
    · rw [List.mem_singleton.mp ho]
      exact sure_of nd h.oks ib e
theorem sb_put {H H1 : Hp} {f D : Addr} {o : HO} (s : Sb f H H1) (nD : H D = none) : Sb f H (upd H1 D o) := fun b x e n => by
  rw [upd_ne (ne_of_none e nD)]
  exact s b x e n
/-- of the model alone -/
structure FixM (m : Md) : Prop where
  lens : m.own.length ≤ 10 ∧ m.wd.length ≤ 4 ∧ m.bd.length ≤ 40
  okr : ∀ q ∈ bRows m, q.all okV = true
  ndh : ((hs m.wd).map (·.1)).Nodup
  own : 0 < m.own.length
section
variable {P : Program} {w : World} {K : PySem.W.Frag} {mg : Str → Option Value} {base : Heap}
def sp_some : Sp := fun vs H Q _ => ∃ (f c d : Addr) (m : Md) (k : Int), vs = [.ref f, .ref d, .int k] ∧ Flow H f c ∧ MdAt H d m ∧ FixM m ∧ 0 ≤ k ∧ k ≤ 16 ∧
  ∀ (t R M : Addr) (rs ms : List V) (rws : List Rw) (fs : List Ft) (H' : Hp), Sb f H H' → Flow H' f c → H' t = some (.tup [.ref R, .ref M]) → H R = none → H M = none → R ≠ M → H' R = some (.lst rs) → H' M = some (.lst ms) → Rows H' rs (rws.map Rw.row) → Rows H' ms (fs.map Ft.row) → Red m rws fs → rws.length ≤ 16 → rws.length = k.toNat → Q (.ref t) H'
theorem cal__law_some_rows (T : Tp K mg) : Cal P w K mg base 11 "_law_some_rows" sp_some := by
  obtain ⟨fd, F⟩ := f__law_some_rows T
  refine cal_of F (g__law_some_rows T) (b__law_some_rows F) sc__law_some_rows (fun vs H Q E h => ?_) (fun cdv A outer s H vs Q E hr h => ?_)
  · obtain ⟨f, c, d, m, k, rfl, _⟩ := h
    rfl
  · obtain ⟨f, c, d, m, k, rfl, FL, M0, X, k0, k16, q⟩ := h
    have hu := hu_of hr
    have hu64 := hr.units
    refine ⟨_, (pss_cons (ps_par (i := 3) (j := 4) (by rfl) sc__law_some_rows.nd rfl rfl (by decide) rfl rfl (pa_cons (pe_lst pa_nil) (pa_cons (pe_lst pa_nil) pa_nil)) (by rfl))
      (pss_cons (ps_for PassesOwn.never rfl (pi_range1 rfl (z_range T) (pa_cons (pv 2) pa_nil)) (pg_name (i := 5) sc__law_some_rows.nd rfl (.inl rfl))
        (pss_cons (ps_set (i := 6) sc__law_some_rows.nd rfl (.inl rfl) (C8.pe_c (cal__law_new_row T) hr (by decide) rfl (pa_cons (pv 0) (pa_cons (pv 1) (pa_cons (pv 4) pa_nil)))))
        (pss_cons (ps_expr (pe_bm PySem.F.plainAttrs_list PySem.F.slot_list_append PySem.F.type_list_append mt_append (pv 3) (pa_cons (pv 6) pa_nil)))
        (pss_one (ps_expr (pe_bm PySem.F.plainAttrs_list PySem.F.slot_list_append PySem.F.type_list_append mt_append (pv 4) (pa_cons (C8.pe_c (cal__law_read_row T) hr (by decide) rfl (pa_cons (pv 1) (pa_cons (pv 4) (pa_cons (pv 6) pa_nil)))) pa_nil)))))))
      (pss_one (ps_ret (pe_tup (pa_cons (pv 3) (pa_cons (pv 4) pa_nil))))))), ?_⟩
    refine ⟨Nat.zero_le _, fun R nR => ⟨Nat.zero_le _, fun M nM => ⟨_, _, rfl, ?_⟩⟩⟩
    have nM0 : H M = none := by
      cases e : H M with
      | none => rfl
      | some y =>
        rw [same_upd nR _ _ e] at nM
        cases nM
    have nRM : R ≠ M := fun z => by
      subst z
      rw [upd_same] at nM
      cases nM
    have sR := (same_upd (o := .lst []) nR).trans (same_upd (o := .lst []) nM)
    have hR : upd (upd H R (.lst [])) M (.lst []) R = some (.lst []) := by rw [upd_ne nRM, upd_same]
    have hM : upd (upd H R (.lst [])) M (.lst []) M = some (.lst []) := upd_same
    generalize upd (upd H R (.lst [])) M (.lst []) = H1 at sR hR hM
    obtain ⟨zs, hf⟩ := FL.lst
    obtain ⟨ws, hc⟩ := FL.cells
    have fR : f ≠ R := ne_of_none hf nR
    have fM : f ≠ M := ne_of_none hf nM0
    have cR : c ≠ R := ne_of_none hc nR
    have cM : c ≠ M := ne_of_none hc nM0
    refine ⟨_, rfl, k, rfl, by omega, by omega, ?_⟩
    refine for_range (lo := 0) (n := k.toNat) (fun i σ H' => ∃ (rs ms : List V) (rws : List Rw) (fs : List Ft) (y5 y6 : Option V), σ = [some (.ref f), some (.ref d), some (.int k), some (.ref R), some (.ref M), y5, y6] ∧ Sb f H H' ∧ Flow H' f c ∧ H' R = some (.lst rs) ∧ H' M = some (.lst ms) ∧ Rows H' rs (rws.map Rw.row) ∧ Rows H' ms (fs.map Ft.row) ∧ Red m rws fs ∧ rws.length = i) ⟨[], [], [], [], none, none, rfl, Sb.of sR, FL.same sR, hR, hM, .nil, .nil, .nil, rfl⟩ ?_ ?_
    · rintro i σ H2 hi ⟨rs, ms, rws, fs, y5, y6, rfl, sb, F2, h2R, h2M, RR, RM, red, len⟩
      have ki : i < 16 := by omega
      have lf := red.len
      have D2 : Sd H2 d M m fs ms := ⟨M0.sb FL sb, h2M, RM⟩
      refine ⟨_, rfl, _, rfl, _, rfl, f, c, d, M, m, fs, ms, rfl, F2, D2, ⟨X.lens, X.okr, by omega, red.oks, X.ndh, X.own⟩, fun t r g H3 sb3 F3 ht ib er => ?_⟩
      have D3 := D2.sb F2 sb3
      have h3R := sb3 _ _ h2R fR.symm
      obtain ⟨zs2, hf2⟩ := F2.lst
      have RR3 := RR.keep (sb3.kt hf2)
      have lr : rs.length = rws.length := by rw [RR3.len, List.length_map]
      have lm : ms.length = fs.length := by rw [RM.len, List.length_map]
      refine ⟨_, rfl, .inl ⟨rfl, _, .inl (.inl h3R)⟩, _, rfl, R, rs, _, rfl, rfl, h3R, small1000 (by omega), ?_⟩
      have kR : Kt H3 (upd H3 R (.lst (rs ++ [.ref t]))) := Kt.upd fun xs e => by rw [h3R] at e; cases e
      have sb4 := sb_put (o := .lst (rs ++ [.ref t])) (sb.trans sb3) nR
      have F4 := F3.upd (o := .lst (rs ++ [.ref t])) fR cR
      have h4M : upd H3 R (.lst (rs ++ [.ref t])) M = some (.lst ms) := by rw [upd_ne nRM.symm]; exact D3.ls
      have h4R : upd H3 R (.lst (rs ++ [.ref t])) R = some (.lst (rs ++ [.ref t])) := upd_same
      have ht4 := kR _ _ ht
      have RR4 := (RR3.snoc ht).keep kR
      have RM4 := D3.rw.keep kR
      generalize upd H3 R (.lst (rs ++ [.ref t])) = H4 at kR sb4 F4 h4M h4R ht4 RR4 RM4 ⊢
      refine ⟨_, rfl, .inl ⟨rfl, _, .inl (.inl h4M)⟩, _, rfl, _, rfl, _, rfl, d, M, t, m, fs, ms, r, rfl, M0.sb FL sb4, X.lens, X.okr, h4M, RM4, by omega, red.oks, ht4, ib, X.ndh, ⟨fun e => absurd (er.symm.trans e) (fun z => nomatch z), fun g' e u H5 s5 hu5 => ?_⟩⟩
      rw [er] at e
      cases e
      have h5M := s5 _ _ h4M
      refine ⟨M, ms, _, rfl, rfl, h5M, small1000 (by omega), ?_⟩
      have kM : Kt H5 (upd H5 M (.lst (ms ++ [.ref u]))) := Kt.upd fun xs e => by rw [h5M] at e; cases e
      refine ⟨rs ++ [.ref t], ms ++ [.ref u], rws ++ [r], fs ++ [g], _, _, rfl, sb_put (sb4.trans (Sb.of s5)) nM0, (F4.same s5).upd fM cM, by rw [upd_ne nRM]; exact s5 _ _ h4R, upd_same, ?_, ?_, red.snoc X.ndh ib er, by rw [List.length_append, len]; rfl⟩
      · rw [List.map_append]
        exact (RR4.keep (Kt.of s5)).keep kM
      · rw [List.map_append]
        exact ((RM4.keep (Kt.of s5)).snoc hu5).keep kM
    · rintro σ H2 ⟨rs, ms, rws, fs, y5, y6, rfl, sb, F2, h2R, h2M, RR, RM, red, len⟩
      refine ⟨_, rfl, _, rfl, (by show 2 ≤ sizeLine; decide), fun t nt => ?_⟩
      have st := same_upd (o := .tup [.ref R, .ref M]) nt
      exact q t R M rs ms rws fs _ (sb.trans (Sb.of st)) (F2.same st) upd_same nR nM0 nRM (st _ _ h2R) (st _ _ h2M) (RR.keep (Kt.of st)) (RM.keep (Kt.of st)) red (by omega) (by omega)
end
end Tw

set_option maxHeartbeats 4000000
namespace Tw
open PySem PySem.Spec PyProof.Rows L2
/-! what a drawn model gives to the papers -/
theorem pts_lay {m : Md} (ok : MdOk m) {z : Str} (h : z ∈ m.pts) : okV (.str z) = true := by
  rcases List.mem_cons.mp h with h | h
  · rw [h]
    decide +kernel
  have n := (pool_nm (ok.pool z h)).1
  show z.cps.all (fun c => decide (c < 0x110000)) = true
  rw [Array.all_eq_true']
  intro c hc
  have h2 : (letters.cps.toList.all fun c => decide (c < 0x110000)) = true := by decide +kernel
  exact List.all_eq_true.mp h2 c (n.2.2 c (Array.mem_toList_iff.mpr hc))
theorem pts_own {m : Md} {z : Str} (h : z ∈ m.own) : z ∈ m.pts := List.mem_cons_of_mem _ (List.mem_append_left _ h)
theorem pts_end {m : Md} {x : Wd} (h : x ∈ m.wd) : x.en ∈ m.pts := List.mem_cons_of_mem _ (List.mem_append_right _ (List.mem_map.mpr ⟨x, h, rfl⟩))
theorem pts_beg {m : Md} (ok : MdOk m) {x : Wd} (h : x ∈ m.wd) : x.bg ∈ m.pts := by
  rcases (ok.wd x h).bg with e | e
  · rw [e]
    exact List.mem_cons_self
  · exact pts_own e
theorem hs_mem {m : Md} (ok : MdOk m) {h : Str × Str × Int × Int} (hh : h ∈ hs m.wd) : h.1 ∈ m.pts ∧ h.2.1 ∈ m.pts := by
  obtain ⟨x, hx, e⟩ := List.mem_filterMap.mp hh
  obtain ⟨i, _, rfl⟩ := Option.map_eq_some_iff.mp e
  exact ⟨pts_end hx, pts_beg ok hx⟩
theorem hs_ends : ∀ l : List Wd, ((hs l).map (·.1)).Sublist (l.map (·.en))
  | [] => List.Sublist.refl _
  | x :: r => by
    have ih := hs_ends r
    show (((x :: r).filterMap _).map _).Sublist _
    rw [List.filterMap_cons]
    cases e : x.la with
    | none => exact ih.cons _
    | some i => exact ih.cons₂ _
theorem hs_nd {m : Md} (ok : MdOk m) : ((hs m.wd).map (·.1)).Nodup := (hs_ends m.wd).nodup (List.nodup_append.mp ok.nd).2.1
theorem row_lay {m : Md} (ok : MdOk m) {x y : Str} {n : Int} (hx : x ∈ m.pts) (hy : y ∈ m.pts) : ([.str x, .str y, .int n] : List V).all okV = true := by
  show (okV (.str x) && (okV (.str y) && true)) = true
  rw [pts_lay ok hx, pts_lay ok hy]
  rfl
theorem offW_mem {m : Md} (ok : MdOk m) {z : Str} (h : z ∈ m.pts) : (offW z m.wd).1 ∈ m.pts := by
  have gen : ∀ l : List Wd, (∀ x ∈ l, x ∈ m.wd) → (offW z l).1 ∈ m.pts := by
    intro l
    induction l with
    | nil => exact fun _ => h
    | cons x r ih =>
      intro hl
      show (if x.en = z then _ else offW z r).1 ∈ m.pts
      by_cases c : x.en = z
      · rw [if_pos c]
        cases x.la with
        | none => exact pts_beg ok (hl x List.mem_cons_self)
        | some i => exact pts_end (hl x List.mem_cons_self)
      · rw [if_neg c]
        exact ih fun y hy => hl y (List.mem_cons_of_mem _ hy)
  exact gen _ fun _ hx => hx
theorem b_lay {m : Md} (ok : MdOk m) : ∀ q ∈ bRows m, q.all okV = true := fun q h => by
  unfold bRows at h
  rcases List.mem_append.mp h with h | h
  · rcases List.mem_append.mp h with h | h
    · obtain ⟨z, hz, h⟩ := List.mem_flatMap.mp h
      rcases List.mem_cons.mp h with e | e
      · rw [e]
        exact row_lay ok List.mem_cons_self (pts_own hz)
      · rw [List.mem_singleton.mp e]
        exact row_lay ok (pts_own hz) List.mem_cons_self
    · obtain ⟨z, hz, h⟩ := List.mem_flatMap.mp h
      have hm := hs_mem ok hz
      rcases List.mem_cons.mp h with e | e
      · rw [e]
        exact row_lay ok hm.2 hm.1
      · rw [List.mem_singleton.mp e]
        exact row_lay ok hm.1 hm.2
  · obtain ⟨x, hx, h⟩ := List.mem_flatMap.mp h
    have b := ok.bd x hx
    rcases List.mem_append.mp h with h | h
    · cases e : x.top with
      | none =>
        rw [e] at h
        cases h
      | some i =>
        rw [e] at h
        rw [List.mem_singleton.mp h]
        exact row_lay ok (offW_mem ok b.one) (offW_mem ok b.oth)
    · cases e : x.bot with
      | none =>
        rw [e] at h
        cases h
      | some i =>
        rw [e] at h
        rw [List.mem_singleton.mp h]
        exact row_lay ok (offW_mem ok b.oth) (offW_mem ok b.one)
theorem fix_of {m : Md} (ok : MdOk m) (h : 0 < m.own.length) : FixM m := ⟨ok.len, b_lay ok, hs_nd ok, h⟩
end Tw

set_option maxHeartbeats 4000000
namespace Tw
open PySem PySem.Spec PyProof.Rows L2
/-! papers.py: rows of any form -/
/-- what a row may hold beside its word -/
def plnV : V → Bool
  | .str z => PyData.canLay0 (.str z)
  | .int _ => true
  | .bl _ => true
  | _ => false
theorem pln_ok {v : V} (h : plnV v = true) : okV v = true := by
  cases v with
  | str z => exact h
  | int i => rfl
  | bl b => rfl
  | non => cases h
  | byt b => cases h
  | flt b => cases h
  | ref b => cases h
  | ty b => cases h
theorem pln_pl {v : V} (h : plnV v = true) : ∃ a, plK v = some a := by
  cases v with
  | str z => exact ⟨_, rfl⟩
  | int i => exact ⟨_, rfl⟩
  | bl b => exact ⟨_, rfl⟩
  | non => cases h
  | byt b => cases h
  | flt b => cases h
  | ref b => cases h
  | ty b => cases h
theorem pln_all {r : List V} (h : r.all plnV = true) : r.all okV = true := List.all_eq_true.mpr fun v hv => pln_ok (List.all_eq_true.mp h v hv)
def isS : V → Bool
  | .str _ => true
  | _ => false
def isN : V → Bool
  | .int _ => true
  | _ => false
theorem pln_num {v : V} {a : String} (h : plnV v = true) (e : plK v = some a) : numB a = isN v := by
  cases v with
  | str z =>
    cases e
    rfl
  | int i =>
    cases e
    rfl
  | bl b =>
    cases e
    rfl
  | non => cases h
  | byt b => cases h
  | flt b => cases h
  | ref b => cases h
  | ty b => cases h
theorem pln_str {v : V} {a : String} (h : plnV v = true) (e : plK v = some a) : kitT a "str" = isS v := by
  cases v with
  | str z =>
    cases e
    rfl
  | int i =>
    cases e
    rfl
  | bl b =>
    cases e
    rfl
  | non => cases h
  | byt b => cases h
  | flt b => cases h
  | ref b => cases h
  | ty b => cases h
theorem cut_tail {a : V} : ∀ {r : List V}, r.length ≤ 4 → cutV (a :: r) (some 1) none = r
  | [], _ => rfl
  | [_], _ => rfl
  | [_, _], _ => rfl
  | [_, _, _], _ => rfl
  | [_, _, _, _], _ => rfl
  | _ :: _ :: _ :: _ :: _ :: _, h => by simp at h
/-- the last thing of a row, and what stands ahead of it -/
theorem cut_last {a : V} : ∀ {r : List V}, 0 < r.length → r.length ≤ 4 → ∃ v q, r = q ++ [v] ∧ atI (a :: r) (-1) = some v ∧ cutV (a :: r) none (some (-1)) = a :: q ∧ ¬ (HT.sIx (a :: r).length 0 none = 0 ∧ HT.sIx (a :: r).length (a :: r).length (some (-1)) = (a :: r).length)
  | [], h, _ => by simp at h
  | [x], _, _ => ⟨x, [], rfl, rfl, rfl, by rintro ⟨_, e⟩; cases e⟩
  | [_, x], _, _ => ⟨x, [_], rfl, rfl, rfl, by rintro ⟨_, e⟩; cases e⟩
  | [_, _, x], _, _ => ⟨x, [_, _], rfl, rfl, rfl, by rintro ⟨_, e⟩; cases e⟩
  | [_, _, _, x], _, _ => ⟨x, [_, _, _], rfl, rfl, rfl, by rintro ⟨_, e⟩; cases e⟩
  | _ :: _ :: _ :: _ :: _ :: _, _, h => by simp at h
theorem cut1_ne {a : V} {r : List V} : ¬ (HT.sIx (a :: r).length 0 (some 1) = 0 ∧ HT.sIx (a :: r).length (a :: r).length none = (a :: r).length) := by
  rintro ⟨e, _⟩
  unfold HT.sIx at e
  simp at e
/-- a told row's things -/
def tT (rs : List (List V)) : List V → Option Ft
  | [.str x, .str y, .int n] => if [.str x, .str y, .int n] ∈ rs then some ⟨false, x, y, n⟩ else none
  | _ => none
def Fm3 (q : List V) : Prop := ∃ (x y : Str) (n : Int), q = [.str x, .str y, .int n]
theorem tT_in {rs : List (List V)} {r : List V} (f : ∀ q ∈ rs, Fm3 q) (h : r ∈ rs) : ∃ x y n, r = [.str x, .str y, .int n] ∧ tT rs r = some ⟨false, x, y, n⟩ := by
  obtain ⟨x, y, n, rfl⟩ := f r h
  exact ⟨x, y, n, rfl, if_pos h⟩
theorem tT_no {rs : List (List V)} {r : List V} (h : ¬ r ∈ rs) : tT rs r = none := by
  unfold tT
  split
  · exact if_neg h
  · rfl
theorem tT_form {rs : List (List V)} {r : List V} {f : Ft} (h : tT rs r = some f) : Fm3 r := by
  unfold tT at h
  split at h
  · exact ⟨_, _, _, rfl⟩
  · cases h
/-- of rows of texts and an int: equal by Python is equal -/
theorem eqv_fm {q r : List V} (hq : Fm3 q) (hr : ∀ v ∈ r, isS v = true ∨ isN v = true) : PyData.eqv (pdR q) (pdR r) = true → q = r := by
  obtain ⟨x, y, n, rfl⟩ := hq
  have one : ∀ {v : V} {u : V}, (isS v = true ∨ isN v = true) → (isS u = true ∨ isN u = true) → PyData.eqv (pd v) (pd u) = true → v = u := by
    intro v u hv hu e
    cases v with
    | str a =>
      cases u with
      | str b =>
        have e : (a == b) = true := e
        rw [eq_of_beq e]
      | int b => cases e
      | _ => rcases hu with h | h <;> cases h
    | int a =>
      cases u with
      | int b =>
        have e : (a == b) = true := e
        rw [eq_of_beq e]
      | str b => cases e
      | _ => rcases hu with h | h <;> cases h
    | _ => rcases hv with h | h <;> cases h
  intro e
  match r, hr, e with
  | [], _, e => cases e
  | [_], _, e =>
    simp [pdR, PyData.eqv, PyData.eqvAll] at e
  | [_, _], _, e =>
    simp [pdR, PyData.eqv, PyData.eqvAll] at e
  | [a, b, c], hr, e =>
    have e : (PyData.eqv (pd (.str x)) (pd a) && (PyData.eqv (pd (.str y)) (pd b) && (PyData.eqv (pd (.int n)) (pd c) && true))) = true := e
    rw [Bool.and_eq_true, Bool.and_eq_true, Bool.and_eq_true] at e
    rw [one (.inl rfl) (hr a List.mem_cons_self) e.1, one (.inl rfl) (hr b (List.mem_cons_of_mem _ List.mem_cons_self)) e.2.1, one (.inr rfl) (hr c (List.mem_cons_of_mem _ (List.mem_cons_of_mem _ List.mem_cons_self))) e.2.2.1]
  | _ :: _ :: _ :: _ :: _, _, e =>
    simp [pdR, PyData.eqv, PyData.eqvAll] at e
theorem any_fm {rs : List (List V)} {r : List V} (f : ∀ q ∈ rs, Fm3 q) (h : r.all okV = true) (hr : ∀ v ∈ r, isS v = true ∨ isN v = true) : ((rs.map pdR).any fun z => PyData.eqv z (pdR r)) = decide (r ∈ rs) := by
  by_cases c : r ∈ rs
  · rw [decide_eq_true c]
    exact any_row h c
  · rw [decide_eq_false c, List.any_eq_false]
    intro z hz e
    obtain ⟨q, hq, rfl⟩ := List.mem_map.mp hz
    exact c (eqv_fm (f q hq) hr e ▸ hq)
section
variable {P : Program} {w : World} {K : PySem.W.Frag} {mg : Str → Option Value} {base : Heap}
/-! ### told_fact -/
def sp_toldG : Sp := fun vs H Q _ => ∃ (L t : Addr) (rs : List (List V)) (z : Str) (r : List V), vs = [.ref L, .ref t] ∧ RowsAt H L rs ∧ (∀ q ∈ rs, q.all okV = true) ∧ (∀ q ∈ rs, Fm3 q) ∧ H t = some (.tup (.str z :: r)) ∧ r.all plnV = true ∧ 0 < r.length ∧ r.length ≤ 4 ∧ MadeS (if z = "told" then tT rs r else none) H Q
theorem cal_toldG (T : Tp K mg) : Cal P w K mg base 2 "told_fact" sp_toldG := by
  obtain ⟨fd, F⟩ := f_told_fact T
  refine cal_of F (g_told_fact T) (b_told_fact F) sc_told_fact (fun vs H Q E h => ?_) (fun cdv A outer s H vs Q E hr h => ?_)
  · obtain ⟨L, t, rs, z, r, rfl, _⟩ := h
    rfl
  · obtain ⟨L, t, rs, z, r, rfl, ⟨xs, hL, R⟩, okr, fm, ht, pl, r0, r4, q⟩ := h
    have hu64 := hr.units
    have hu65 : (cxOf CX0 P w K mg base N_told_fact "told_fact" (defScope s_told_fact) (He.ga K "told_fact") cdv A outer s H E).nox.A.units + 65 < cLine := by
      have h := hr.in1.units
      exact h
    have S : SqT K H t (.str z :: r) := .inl (.inl ht)
    refine ⟨_, (pss_cons (ps_if (PW.pt (pw_or (pt_cmpR op_ne (pe_ix ix_tup (pv 1) pe_int (fun _ _ => rfl)) pe_str (nomark _)) (pw_or1 (pt_not (pt_val (C8.pe_c (cal_is_number T) hr (by decide) rfl (pa_cons (pe_ix ix_tup (pv 1) (pe_un un_neg pe_int) (fun _ _ => rfl)) pa_nil))))))) (pss_one (ps_ret pe_non)) pss_nil)
      (pss_cons (ps_if (PW.pt (pw_or (pt_not (pt_val (pe_callB (cr_all rfl) (by rfl) (z_all T) bb_all (pa_cons (pe_lc (own := [("name", 2)]) (g := gName 2) (tt := tYes) rfl sc_told_fact.nd (pi_tup (pe_slice sl_tup (pv 1) po_none (po_some (pe_un un_neg pe_int)))) (blkOk_by (N := N_told_fact) (sc := defScope s_told_fact) (by decide +kernel)) (fun _ _ _ _ _ => (pg_name (i := 2) sc_told_fact.nd rfl (.inl rfl))) (fun _ _ _ _ _ => pts_nil) (fun _ _ _ _ _ => (pe_callB (call_isKK (K := K) rfl) (by rfl) (z_isinstance T) bb_isinstance (pa_cons (pv 2) (pa_cons (pe_bltn (v := .ty "str") (by rfl) (z_str T) bb_str rfl) pa_nil))))) pa_nil)))) (pw_or1 (pt_cmpR (op_notInD hu65) (pe_slice sl_tup (pv 1) (po_some pe_int) po_none) (pv 0) (by rfl))))) (pss_one (ps_ret pe_non)) pss_nil)
      (pss_one (ps_ret (pe_op op_catU (pe_tup (pa_cons (C8.pe_gc (by rfl) (c_MOST T)) pa_nil)) (pe_slice sl_tup (pv 1) (po_some pe_int) po_none)))))), ?_⟩
    refine ⟨_, rfl, t, _, 0, _, rfl, rfl, S, atI_nat (j := 0) rfl, rfl, _, rfl, ?_⟩
    by_cases c : z = "told"
    · subst c
      rw [if_pos rfl] at q
      rw [decide_eq_true (show V.str "told" = V.str "told" from rfl)]
      obtain ⟨v, i, rfl, el, ec, en1⟩ := cut_last (a := .str "told") r0 r4
      have plv : plnV v = true := List.all_eq_true.mp pl v (List.mem_append_right _ List.mem_cons_self)
      obtain ⟨ka, ek⟩ := pln_pl plv
      refine iteF ⟨_, rfl, _, rfl, t, _, _, v, rfl, rfl, S, el, v, ka, rfl, ek, _, rfl, ?_⟩
      rw [pln_num plv ek]
      have brk : ∀ {f : Ft}, tT rs (i ++ [v]) = some f → isN v = true ∧ (i.all isS) = true := fun {f} e => by
        obtain ⟨x, y, n, h⟩ := tT_form e
        have h : i ++ [v] = [.str x, .str y] ++ [.int n] := h
        obtain ⟨rfl, h2⟩ := List.append_inj' h rfl
        cases h2
        exact ⟨rfl, rfl⟩
      cases en : isN v with
      | false =>
        refine iteT (q.1 ?_ _ (Same.refl _))
        cases e : tT rs (i ++ [v]) with
        | none => rfl
        | some f =>
          have := (brk e).1
          rw [en] at this
          cases this
      | true =>
        refine iteF ⟨_, rfl, _, rfl, _, rfl, t, _, rfl, S, en1, fun k nk => ⟨k, rfl, ⟨_, .inl (.inl upd_same)⟩, fun D nD => ?_⟩⟩
        rw [ec] at nD ⊢
        have sk := same_upd (o := .tup (.str "told" :: i)) nk
        have hk : upd H k (.tup (.str "told" :: i)) k = some (.tup (.str "told" :: i)) := upd_same
        generalize upd H k (.tup (.str "told" :: i)) = H1 at nD sk hk ⊢
        have li : i.length ≤ 3 := by
          rw [List.length_append] at r4
          have : ([v] : List V).length = 1 := rfl
          omega
        refine lc_pure (.str "told" :: i) (walk_tupN rfl) (fun x => some (isS x)) (SV V.bl) (fun _ h => h) nD (by show i.length + 1 ≤ 1000; omega) (fun H s => .inl (.inl (s _ _ hk))) ?_ ?_
        · rintro j x u H2 _ ex s2 ⟨rfl, hv⟩ Good Bad kt kf
          have e1 : x = u := by
            rw [hv] at ex
            exact (Option.some.inj ex).symm
          subst e1
          have px : plnV x = true := by
            rcases List.mem_cons.mp (List.mem_of_getElem? hv) with h | h
            · rw [h]
              decide +kernel
            · exact List.all_eq_true.mp pl x (List.mem_append_left _ h)
          obtain ⟨kx, ekx⟩ := pln_pl px
          have tyk := fun H0 => plK_ty (K := K) (H := H0) ekx
          refine ⟨rfl, yes_i (iteT ⟨_, rfl, _, "str", kx, rfl, (tyk _).1, (tyk H).2, by decide, kt _ _ _ rfl (Same.refl _) ?_⟩)⟩
          show V.bl _ = V.bl _
          rw [pln_str px ekx]
        · intro H2 acc s2 d2 p2
          have ea := paired_enc p2
          rw [show ((.str "told" :: i : List V).filterMap fun x => some (isS x)) = (.str "told" :: i : List V).map isS from List.filterMap_eq_map ▸ rfl] at ea
          subst ea
          have sA := sk.trans s2
          refine ⟨D, _, rfl, .inl (.inl d2), _, rfl, ?_⟩
          have eall : ((.str "told" :: i : List V).map isS).all id = i.all isS := by
            rw [List.all_map]
            rfl
          rw [eall]
          cases es : i.all isS with
          | false =>
            refine iteT (q.1 ?_ _ sA)
            cases e : tT rs (i ++ [v]) with
            | none => rfl
            | some f =>
              have := (brk e).2
              rw [es] at this
              cases this
          | true =>
            refine iteF ⟨_, rfl, 1, rfl, t, _, rfl, .inl (.inl (sA _ _ ht)), cut1_ne, fun k2 nk2 => ⟨_, rfl, ?_⟩⟩
            rw [cut_tail r4]
            have sB := sA.trans (same_upd (o := .tup (i ++ [v])) nk2)
            have okx := pln_all pl
            have hsn : ∀ x ∈ i ++ [v], isS x = true ∨ isN x = true := fun x hx => by
              rcases List.mem_append.mp hx with h | h
              · exact .inl (List.all_eq_true.mp es x h)
              · rw [List.mem_singleton.mp h]
                exact .inr en
            refine ⟨pdR (i ++ [v]), rs.map pdR, .tup (.inl (.inl upd_same)) (dp_all okx), .lst (.inl (.inl (sB _ _ hL))) (dp_rows (R.keep (Kt.of sB)) okr), shaped_row okx, shaped_rows okr, _, rfl, ?_⟩
            rw [any_fm fm okx hsn]
            by_cases cm : i ++ [v] ∈ rs
            · rw [decide_eq_true cm]
              obtain ⟨x, y, n, er, et⟩ := tT_in fm cm
              rw [et] at q
              refine iteF ⟨by show 1 ≤ sizeLine; decide, fun a na => ?_⟩
              have sC := sB.trans (same_upd (o := .tup [.str "most"]) na)
              refine ⟨_, rfl, 1, rfl, t, _, rfl, .inl (.inl (sC _ _ ht)), cut1_ne, fun b nb => ?_⟩
              rw [cut_tail r4, er] at *
              have sb := same_upd (o := .tup [.str x, .str y, .int n]) nb
              exact ⟨a, b, _, _, rfl, rfl, sb _ _ upd_same, upd_same, by show 1 + 3 ≤ sizeLine; decide, fun u H' s' hu => q.2 _ rfl u H' ((sC.trans sb).trans s') hu⟩
            · rw [decide_eq_false cm]
              exact iteT (q.1 (tT_no cm) _ sB)
    · rw [if_neg c] at q
      rw [decide_eq_false (show ¬ V.str z = V.str "told" from fun e => c (V.str.inj e))]
      exact iteT (q.1 rfl _ (Same.refl _))
end
end Tw

set_option maxHeartbeats 4000000
namespace Tw
open PySem PySem.Spec PyProof.Rows L2
/-! late_fact and made_fact of any row -/
def tL (f : Str → Option Ft) : List V → Option Ft
  | [.str k] => f k
  | _ => none
theorem tL_two {f : Str → Option Ft} {a b : V} {r : List V} : tL f (a :: b :: r) = none := by
  cases a <;> rfl
def srcV (prev : List Ft) : V → Option Ft
  | .int a => if 0 ≤ a then prev[a.toNat]? else none
  | _ => none
def src (prev : List Ft) : List V → Option (List Ft)
  | [] => some []
  | v :: r => (srcV prev v).bind fun o => (src prev r).map (o :: ·)
theorem srcV_wh {prev : List Ft} {v : V} : whB 0 ((prev.length : Int) - 1) v = (srcV prev v).isSome := by
  cases v with
  | int a =>
    show decide (0 ≤ a ∧ a ≤ (prev.length : Int) - 1) = (if 0 ≤ a then prev[a.toNat]? else none).isSome
    by_cases h : 0 ≤ a
    · rw [if_pos h]
      by_cases h2 : a.toNat < prev.length
      · rw [List.getElem?_eq_getElem h2]
        exact decide_eq_true ⟨h, by omega⟩
      · rw [List.getElem?_eq_none (by omega)]
        exact decide_eq_false fun z => h2 (by omega)
    · rw [if_neg h]
      exact decide_eq_false fun z => h z.1
  | str z => rfl
  | bl b => rfl
  | non => rfl
  | byt b => rfl
  | flt b => rfl
  | ref b => rfl
  | ty b => rfl
theorem srcV_at {prev : List Ft} {v : V} {o : Ft} (h : srcV prev v = some o) : ∃ a : Nat, v = .int (a : Nat) ∧ prev[a]? = some o := by
  cases v with
  | int a =>
    have h : (if 0 ≤ a then prev[a.toNat]? else none) = some o := h
    by_cases c : 0 ≤ a
    · rw [if_pos c] at h
      exact ⟨a.toNat, by rw [Int.toNat_of_nonneg c], h⟩
    · rw [if_neg c] at h
      cases h
  | _ => cases h
theorem src_wh {prev : List Ft} : ∀ {r : List V}, r.all (whB 0 ((prev.length : Int) - 1)) = (src prev r).isSome
  | [] => rfl
  | v :: r => by
    rw [List.all_cons, src_wh (r := r), srcV_wh]
    show _ = ((srcV prev v).bind fun o => (src prev r).map (o :: ·)).isSome
    cases srcV prev v with
    | none => rfl
    | some o =>
      show (true && _) = ((src prev r).map (o :: ·)).isSome
      cases src prev r <;> rfl
theorem src_at {prev : List Ft} : ∀ {r : List V} {os : List Ft}, src prev r = some os → os.length = r.length ∧ ∀ (i : Nat) (v : V), r[i]? = some v → ∃ o, os[i]? = some o ∧ srcV prev v = some o
  | [], os, h => by
    cases h
    exact ⟨rfl, (fun i v e => nomatch e)⟩
  | v :: r, os, h => by
    obtain ⟨o, h1, h2⟩ := Option.bind_eq_some_iff.mp h
    obtain ⟨os', h3, rfl⟩ := Option.map_eq_some_iff.mp h2
    obtain ⟨h4, h5⟩ := src_at h3
    refine ⟨by rw [List.length_cons, List.length_cons, h4], fun i u e => ?_⟩
    match i, e with
    | 0, e =>
      cases e
      exact ⟨o, rfl, h1⟩
    | i + 1, e => exact h5 i u e
/-- by a rule of these -/
def byR (g : Hk) (z : Str) : List Ft → Option Ft
  | [o, p] => if z = "along" ∨ z = "wait" then rPr z o p else none
  | [o] => if z = "sure" ∨ z = "soon" ∨ z = "ahead" then rSg z g o else none
  | _ => none
def mF (g : Hk) (prev : List Ft) (z : Str) (r : List V) : Option Ft := (src prev r).bind (byR g z)
abbrev wds : List Str := ["told", "late", "along", "wait", "sure", "soon", "ahead", "Told", ""]
section
variable {P : Program} {w : World} {K : PySem.W.Frag} {mg : Str → Option Value} {base : Heap}
def sp_one_ofP : Sp := fun vs H Q _ => ∃ (v : V) (p : Addr) (kvs : List (Key × V)), vs = [v, .ref p] ∧ plnV v = true ∧ H p = some (.dK kvs) ∧ ((∃ z, v = .str z ∧ Q (.bl (valV kvs (kS z)).isSome) H) ∨ isS v = false ∧ Q (.bl false) H)
theorem cal_one_ofP (T : Tp K mg) : Cal P w K mg base 1 "is_one_of" sp_one_ofP := by
  obtain ⟨fd, F⟩ := f_is_one_of T
  refine cal_of F (g_is_one_of T) (b_is_one_of F) sc_is_one_of (fun vs H Q E h => ?_) (fun cdv A outer s H vs Q E hr h => ?_)
  · obtain ⟨v, p, kvs, rfl, _⟩ := h
    rfl
  · obtain ⟨v, p, kvs, rfl, plv, hp, q⟩ := h
    have hu := hu_of hr
    refine ⟨_, (pss_one (ps_ret (pe_and (pe_callB call_isK (by rfl) (z_isinstance T) bb_isinstance (pa_cons (pv 0) (pa_cons (pe_bltn (v := .ty "str") (by rfl) (z_str T) bb_str rfl) pa_nil))) (pe_one (pe_cmp (pc_din hu (pv 0) (pv 1)) (by rfl)))))), ?_⟩
    rcases q with ⟨z, rfl, q⟩ | ⟨ns, q⟩
    · exact ⟨_, rfl, _, "str", "str", rfl, .base (.str _), by decide, by decide, _, rfl, iteT ⟨_, rfl, _, rfl, p, _, rfl, DGet.k (k := kS z) hp, q⟩⟩
    · obtain ⟨ka, ek⟩ := pln_pl plv
      obtain ⟨ty, hk⟩ := plK_ty (K := K) (H := H) ek
      refine ⟨_, rfl, _, "str", ka, rfl, ty, hk, by decide, _, rfl, ?_⟩
      rw [pln_str plv ek, ns]
      exact iteF q
def sp_lateG : Sp := fun vs H Q _ => ∃ (d t : Addr) (f : Str → Option Ft) (z : Str) (r : List V), vs = [.ref d, .ref t] ∧ LtD H d f ∧ H t = some (.tup (.str z :: r)) ∧ r.all plnV = true ∧ 0 < r.length ∧ MadeS (if z = "late" then tL f r else none) H Q
theorem cal_lateG (T : Tp K mg) : Cal P w K mg base 2 "late_fact" sp_lateG := by
  obtain ⟨fd, F⟩ := f_late_fact T
  refine cal_of F (g_late_fact T) (b_late_fact F) sc_late_fact (fun vs H Q E h => ?_) (fun cdv A outer s H vs Q E hr h => ?_)
  · obtain ⟨d, t, f, z, r, rfl, _⟩ := h
    rfl
  · obtain ⟨d, t, f, z, r, rfl, ⟨kvs, hd, lt⟩, ht, pl, r0, q⟩ := h
    have hu := hu_of hr
    have S : SqT K H t (.str z :: r) := .inl (.inl ht)
    refine ⟨_, (pss_cons (ps_if (PW.pt (pw_or (pt_cmpR op_ne (pe_ix ix_tup (pv 1) pe_int (fun _ _ => rfl)) pe_str (nomark _)) (pw_or (pt_cmpR op_ne (pe_callB call_len_seq (by rfl) (z_len T) bb_len (pa_cons (pv 1) pa_nil)) pe_int (nomark _)) (pw_or1 (pt_not (pt_val (C8.pe_c (cal_one_ofP T) hr (by decide) rfl (pa_cons (pe_ix ix_tup (pv 1) pe_int (fun _ _ => rfl)) (pa_cons (pv 0) pa_nil))))))))) (pss_one (ps_ret pe_non)) pss_nil)
      (pss_one (ps_ret (pe_dget hu (pv 0) (pe_ix ix_tup (pv 1) pe_int (fun _ _ => rfl)) (fun _ _ => rfl))))), ?_⟩
    refine ⟨_, rfl, t, _, 0, _, rfl, rfl, S, atI_nat (j := 0) rfl, rfl, _, rfl, ?_⟩
    by_cases c : z = "late"
    · subst c
      rw [if_pos rfl] at q
      rw [decide_eq_true (show V.str "late" = V.str "late" from rfl)]
      refine iteF ⟨_, rfl, t, _, rfl, .inr S, rfl, _, rfl, ?_⟩
      match r, r0, pl, q, S, ht with
      | [v], _, pl, q, S, ht =>
        have pv : plnV v = true := List.all_eq_true.mp pl v List.mem_cons_self
        refine iteF ⟨_, rfl, t, _, 1, v, rfl, rfl, S, atI_nat (j := 1) rfl, _, rfl, v, d, kvs, rfl, pv, hd, ?_⟩
        by_cases cs : ∃ k, v = .str k
        · obtain ⟨k, rfl⟩ := cs
          refine .inl ⟨k, rfl, _, rfl, ?_⟩
          have hz := lt k
          cases ex : f k with
          | none =>
            rw [ex] at hz
            rw [hz]
            exact iteT (q.1 ex _ (Same.refl _))
          | some x =>
            rw [ex] at hz
            obtain ⟨u, hu1, hu2⟩ := hz
            rw [hu1]
            exact iteF ⟨_, rfl, _, rfl, t, _, 1, .str k, rfl, rfl, S, atI_nat (j := 1) rfl, d, _, rfl, .inl ⟨kvs, kS k, .inl hd, rfl, hu1.symm⟩, q.2 x ex u _ (Same.refl _) hu2⟩
        · refine .inr ⟨?_, _, rfl, iteT (q.1 ?_ _ (Same.refl _))⟩
          · cases v with
            | str k => exact (cs ⟨k, rfl⟩).elim
            | _ => rfl
          · cases v with
            | str k => exact (cs ⟨k, rfl⟩).elim
            | _ => rfl
      | _ :: _ :: r', _, pl, q, S, ht =>
        rw [decide_eq_false (show ¬ V.int (List.length (V.str "late" :: _ :: _ :: r')) = V.int 2 from fun e => by
          have e := V.int.inj e
          simp only [List.length_cons] at e
          omega)]
        exact iteT (q.1 tL_two _ (Same.refl _))
    · rw [if_neg c] at q
      rw [decide_eq_false (show ¬ V.str z = V.str "late" from fun e => c (V.str.inj e))]
      exact iteT (q.1 rfl _ (Same.refl _))
/-! ### made_fact -/
def oP (z : Str) : Option Str := if z = "along" then some "along" else if z = "wait" then some "wait" else none
theorem inP (T : Tp K mg) {z : Str} (hz : z ∈ wds) (h1 : ¬ z = "along") (h2 : ¬ z = "wait") : PySem.W.nsIn K (He.ga K "PAIR_RULES") z = some none := by
  simp only [wds, List.mem_cons, List.not_mem_nil, or_false] at hz
  rcases hz with rfl | rfl | rfl | rfl | rfl | rfl | rfl | rfl | rfl
  · exact nt_PAIR_RULES_told T
  · exact nt_PAIR_RULES_late T
  · exact absurd rfl h1
  · exact absurd rfl h2
  · exact nt_PAIR_RULES_sure T
  · exact nt_PAIR_RULES_soon T
  · exact nt_PAIR_RULES_ahead T
  · exact nt_PAIR_RULES_Told T
  · exact nt_PAIR_RULES_empty T
theorem inS (T : Tp K mg) {z : Str} (hz : z ∈ wds) (h1 : ¬ z = "sure") (h2 : ¬ z = "soon") (h3 : ¬ z = "ahead") : PySem.W.nsIn K (He.ga K "SINGLE_RULES") z = some none := by
  simp only [wds, List.mem_cons, List.not_mem_nil, or_false] at hz
  rcases hz with rfl | rfl | rfl | rfl | rfl | rfl | rfl | rfl | rfl
  · exact nt_SINGLE_RULES_told T
  · exact nt_SINGLE_RULES_late T
  · exact nt_SINGLE_RULES_along T
  · exact nt_SINGLE_RULES_wait T
  · exact absurd rfl h1
  · exact absurd rfl h2
  · exact absurd rfl h3
  · exact nt_SINGLE_RULES_Told T
  · exact nt_SINGLE_RULES_empty T
theorem pairAt (T : Tp K mg) {z : Str} (hz : z = "along" ∨ z = "wait") : ∃ (ad : Addr) (sp : Sp), PySem.W.nsIn K (He.ga K "PAIR_RULES") z = some (some (.ref ad)) ∧ SP K z ad = some sp ∧
    ∀ (t1 t2 : Addr) (o p : Ft) (H : Hp) (Q : VK) (E : XK), H t1 = some (.tup o.row) → H t2 = some (.tup p.row) → MadeF (rPr z o p) H Q → sp [.ref t1, .ref t2] H Q E := by
  rcases hz with rfl | rfl
  · refine ⟨_, sp_pair rAlong, nt_PAIR_RULES_along T, by unfold SP; rw [if_pos rfl]; exact one_at, fun t1 t2 o p H Q E h1 h2 q => ?_⟩
    unfold rPr at q
    rw [if_pos rfl] at q
    exact ⟨t1, t2, o, p, rfl, h1, h2, q⟩
  · have nw : ¬ ("wait" : Str) = "along" := by decide +kernel
    refine ⟨_, sp_pair rWait, nt_PAIR_RULES_wait T, by unfold SP; rw [if_neg nw]; exact one_at, fun t1 t2 o p H Q E h1 h2 q => ?_⟩
    unfold rPr at q
    rw [if_neg nw] at q
    exact ⟨t1, t2, o, p, rfl, h1, h2, q⟩
theorem singleAt (T : Tp K mg) {z : Str} (hz : z = "sure" ∨ z = "soon" ∨ z = "ahead") : ∃ (ad : Addr) (sp : Sp), PySem.W.nsIn K (He.ga K "SINGLE_RULES") z = some (some (.ref ad)) ∧ SS K z ad = some sp ∧
    ∀ (d t1 : Addr) (g : Hk) (o : Ft) (H : Hp) (Q : VK) (E : XK), HdD H d g → H t1 = some (.tup o.row) → okSure g o → MadeF (rSg z g o) H Q → sp [.ref d, .ref t1] H Q E := by
  have n1 : ¬ ("soon" : Str) = "sure" := by decide +kernel
  have n2 : ¬ ("ahead" : Str) = "sure" := by decide +kernel
  have n3 : ¬ ("ahead" : Str) = "soon" := by decide +kernel
  rcases hz with rfl | rfl | rfl
  · refine ⟨_, sp_single okSure rSure, nt_SINGLE_RULES_sure T, by unfold SS; rw [if_pos rfl]; exact one_at, fun d t1 g o H Q E hd h1 ok q => ?_⟩
    unfold rSg at q
    rw [if_pos rfl] at q
    exact ⟨d, t1, g, o, rfl, hd, h1, ok, q⟩
  · refine ⟨_, sp_single okAll rSoon, nt_SINGLE_RULES_soon T, by unfold SS; rw [if_neg n1, if_pos rfl]; exact one_at, fun d t1 g o H Q E hd h1 ok q => ?_⟩
    unfold rSg at q
    rw [if_neg n1, if_pos rfl] at q
    exact ⟨d, t1, g, o, rfl, hd, h1, True.intro, q⟩
  · refine ⟨_, sp_single okAll rAhead, nt_SINGLE_RULES_ahead T, by unfold SS; rw [if_neg n2, if_neg n3]; exact one_at, fun d t1 g o H Q E hd h1 ok q => ?_⟩
    unfold rSg at q
    rw [if_neg n2, if_neg n3] at q
    exact ⟨d, t1, g, o, rfl, hd, h1, True.intro, q⟩
def sp_madeG : Sp := fun vs H Q _ => ∃ (d l t : Addr) (g : Hk) (fs : List Ft) (xs : List V) (z : Str) (r : List V), vs = [.ref d, .ref l, .ref t] ∧ HdD H d g ∧ H l = some (.lst xs) ∧ Rows H xs (fs.map Ft.row) ∧ fs.length ≤ 1000 ∧ H t = some (.tup (.str z :: r)) ∧ z ∈ wds ∧ r.all plnV = true ∧ 0 < r.length ∧ r.length ≤ 4 ∧ (∀ o ∈ fs, okSure g o) ∧ MadeS (mF g fs z r) H Q
theorem cal_madeG (T : Tp K mg) (TB : Tbs w K) : Cal P w K mg base 3 "made_fact" sp_madeG := by
  obtain ⟨fd, F⟩ := f_made_fact T
  refine cal_of F (g_made_fact T) (b_made_fact F) sc_made_fact (fun vs H Q E h => ?_) (fun cdv A outer s H vs Q E hr h => ?_)
  · obtain ⟨d, l, t, g, fs, xs, z, r, rfl, _⟩ := h
    rfl
  · obtain ⟨d, l, t, g, fs, xs, z, r, rfl, HD, hl, R, few, ht, hz, pl, r0, r4, oks, q⟩ := h
    obtain ⟨es1, n1, DP⟩ := TB _ List.mem_cons_self
    obtain ⟨es2, n2, DS⟩ := TB _ (List.mem_cons_of_mem _ List.mem_cons_self)
    have lx : xs.length = fs.length := by rw [R.len, List.length_map]
    have S : SqT K H t (.str z :: r) := .inl (.inl ht)
    refine ⟨_, (pss_cons (ps_set (i := 3) sc_made_fact.nd rfl (.inl rfl) (pe_ix ix_tup (pv 2) pe_int (fun _ _ => rfl)))
      (pss_cons (ps_if (pt_not (pt_val (pe_callB (cr_all rfl) (by rfl) (z_all T) bb_all (pa_cons (pe_lc (own := [("place", 7)]) (g := gName 7) (tt := tYes) rfl sc_made_fact.nd (pi_tup (pe_slice sl_tup (pv 2) (po_some pe_int) po_none)) (blkOk_by (N := N_made_fact) (sc := defScope s_made_fact) (by decide +kernel)) (fun _ _ _ _ _ => (pg_name (i := 7) sc_made_fact.nd rfl (.inl rfl))) (fun _ _ _ _ _ => pts_nil) (fun _ _ _ _ _ => (C8.pe_c (cal_iswh T) hr (by decide) rfl (pa_cons (pv 7) (pa_cons pe_int (pa_cons (pe_op op_sub (pe_callB (call_len_seqK (K := K) rfl) (by rfl) (z_len T) bb_len (pa_cons (pv 1) pa_nil)) pe_int) pa_nil)))))) pa_nil)))) (pss_one (ps_ret pe_non)) pss_nil)
      (pss_cons (ps_setLc (i := 4) (own := [("place", 7)]) (g := gName 7) (tt := tYes) rfl sc_made_fact.nd rfl rfl (sw_true rfl rfl rfl (by decide +kernel)) (pi_tup (pe_slice sl_tup (pv 2) (po_some pe_int) po_none)) (blkOk_by (N := N_made_fact) (sc := defScope s_made_fact) (by decide +kernel)) (fun _ _ _ _ _ => (pg_name (i := 7) sc_made_fact.nd rfl (.inl rfl))) (fun _ _ _ _ _ => pts_nil) (fun _ _ _ _ _ => (pe_ix (ix_listK (K := K) rfl) (pv 1) (pv 7) (fun _ _ => rfl))))
      (pss_cons (ps_if (PW.pt (pw_and (pt_cmpR (op_in_kd DP) (pv 3) (pe_glob (v := .ref (He.ga K "PAIR_RULES")) (by rfl) (g_PAIR_RULES T) rfl) (by rfl)) (pw_and1 (pt_cmpR op_eq (pe_callB call_len_seq (by rfl) (z_len T) bb_len (pa_cons (pv 4) pa_nil)) pe_int (nomark _))))) (pss_cons (ps_set (i := 5) sc_made_fact.nd rfl (.inl rfl) (pe_ix ix_kdict (pe_glob (v := .ref (He.ga K "PAIR_RULES")) (by rfl) (g_PAIR_RULES T) rfl) (pv 3) (fun _ _ => rfl)))
        (pss_one (ps_ret (pe_callA (i := 5) (heldP T z) (hr.mono (by decide)) rfl (.inl rfl) (pa_cons (pe_ix ix_list (pv 4) pe_int (fun _ _ => rfl)) (pa_cons (pe_ix ix_list (pv 4) pe_int (fun _ _ => rfl)) pa_nil)))))) pss_nil)
      (pss_cons (ps_if (PW.pt (pw_and (pt_cmpR (op_in_kd DS) (pv 3) (pe_glob (v := .ref (He.ga K "SINGLE_RULES")) (by rfl) (g_SINGLE_RULES T) rfl) (by rfl)) (pw_and1 (pt_cmpR op_eq (pe_callB call_len_seq (by rfl) (z_len T) bb_len (pa_cons (pv 4) pa_nil)) pe_int (nomark _))))) (pss_cons (ps_set (i := 6) sc_made_fact.nd rfl (.inl rfl) (pe_ix ix_kdict (pe_glob (v := .ref (He.ga K "SINGLE_RULES")) (by rfl) (g_SINGLE_RULES T) rfl) (pv 3) (fun _ _ => rfl)))
        (pss_one (ps_ret (pe_callA (i := 6) (heldS T z) (hr.mono (by decide)) rfl (.inl rfl) (pa_cons (pv 0) (pa_cons (pe_ix ix_list (pv 4) pe_int (fun _ _ => rfl)) pa_nil)))))) pss_nil)
      (pss_one (ps_ret pe_non))))))), ?_⟩
    refine ⟨_, rfl, t, _, 0, .str z, rfl, rfl, S, atI_nat (j := 0) rfl, ?_⟩
    refine ⟨_, rfl, 1, rfl, t, _, rfl, S, cut1_ne, fun k nk => ⟨k, rfl, ⟨_, .inl (.inl upd_same)⟩, fun D nD => ?_⟩⟩
    rw [cut_tail r4] at nD ⊢
    have sk := same_upd (o := .tup r) nk
    have hk : upd H k (.tup r) k = some (.tup r) := upd_same
    generalize upd H k (.tup r) = H1 at nD sk hk ⊢
    refine lc_pure r (walk_tupN rfl) (fun v => some (whB 0 ((fs.length : Int) - 1) v)) (SV V.bl) (fun _ h => h) nD (by omega) (fun H s => .inl (.inl (s _ _ hk))) ?_ ?_
    · rintro j x u H2 _ ex s2 ⟨rfl, hv⟩ Good Bad kt kf
      have e1 : x = u := by
        rw [hv] at ex
        exact (Option.some.inj ex).symm
      subst e1
      obtain ⟨kx, ekx⟩ := pln_pl (List.all_eq_true.mp pl x (List.mem_of_getElem? hv))
      refine ⟨rfl, yes_i (iteT ⟨_, rfl, _, rfl, l, xs, rfl, .inl (.inl (.inl (s2 _ _ (sk _ _ hl)))), _, 1, rfl, rfl, x, 0, _, rfl, by rw [ekx]; rfl, kt _ _ _ rfl (Same.refl _) ?_⟩)⟩
      show V.bl _ = V.bl _
      rw [lx]
    · intro H2 acc s2 d2 p2
      have ea := paired_enc p2
      rw [show (r.filterMap fun v => some (whB 0 ((fs.length : Int) - 1) v)) = r.map (whB 0 ((fs.length : Int) - 1)) from List.filterMap_eq_map ▸ rfl] at ea
      subst ea
      have sA := sk.trans s2
      refine ⟨D, _, rfl, .inl (.inl d2), _, rfl, ?_⟩
      rw [List.all_map, show (id ∘ whB 0 ((fs.length : Int) - 1)) = whB 0 ((fs.length : Int) - 1) from rfl, src_wh]
      cases es : src fs r with
      | none =>
        refine iteT (q.1 ?_ _ sA)
        unfold mF
        rw [es]
        rfl
      | some os =>
        have em : mF g fs z r = byR g z os := by
          unfold mF
          rw [es]
          rfl
        rw [em] at q
        obtain ⟨lo, ato⟩ := src_at es
        refine iteF ?_
        refine ⟨_, rfl, 1, rfl, t, _, rfl, .inl (.inl (sA _ _ ht)), cut1_ne, fun k2 nk2 => ⟨k2, rfl, ⟨_, .inl (.inl upd_same)⟩, ?_⟩⟩
        rw [cut_tail r4]
        refine fun D2 nD2 => ?_
        have sk2 := sA.trans (same_upd (o := .tup r) nk2)
        have hk2 : upd H2 k2 (.tup r) k2 = some (.tup r) := upd_same
        generalize upd H2 k2 (.tup r) = H3 at sk2 hk2 nD2 ⊢
        refine lc_pure os (walk_tupN lo.symm) (fun o => some o) (SR Ft.row) sr_k nD2 (by omega) (fun H s => .inl (.inl (s _ _ hk2))) ?_ ?_
        · rintro j o u H4 _ eo s4 ⟨rfl, hv⟩ Good Bad kt kf
          obtain ⟨o', eo', sv⟩ := ato j u hv
          rw [eo] at eo'
          cases eo'
          obtain ⟨a, rfl, ea⟩ := srcV_at sv
          obtain ⟨x1, e1⟩ : ∃ x, xs[a]? = some x := ⟨_, List.getElem?_eq_getElem (by rw [lx]; exact (List.getElem?_eq_some_iff.mp ea).1)⟩
          obtain ⟨t1, rfl, ht1⟩ := rows_at R e1 ea
          have hl4 := s4 _ _ (sk2 _ _ hl)
          exact ⟨rfl, yes_i (iteT ⟨_, rfl, _, rfl, l, xs, (a : Int), .ref t1, rfl, rfl, .inl (.inl hl4), atI_nat (j := a) e1, kt _ _ _ rfl (Same.refl _) ⟨t1, rfl, s4 _ _ (sk2 _ _ ht1)⟩⟩)⟩
        · intro H4 srcs s4 d4 p4
          rw [show (os.filterMap fun o => some o) = os from List.filterMap_some] at p4
          have r4' := paired_rows p4
          have ls : srcs.length = os.length := by rw [r4'.len, List.length_map]
          have sB := sk2.trans s4
          have SD : SqL K H4 D2 srcs := .inl (.inl d4)
          have q' : MadeF (byR g z os) H4 Q := q.at sB
          by_cases zp : z = "along" ∨ z = "wait"
          · have zs : ¬ z = "sure" ∧ ¬ z = "soon" ∧ ¬ z = "ahead" := by
              rcases zp with rfl | rfl <;> decide +kernel
            obtain ⟨ad, sp, en, esp, run⟩ := pairAt T zp
            refine ⟨_, rfl, _, _, rfl, rfl, en, _, rfl, iteT ⟨_, rfl, D2, _, rfl, .inl SD, rfl, _, rfl, ?_⟩⟩
            by_cases l2 : os.length = 2
            · rw [decide_eq_true (show V.int (srcs.length : Nat) = V.int 2 by rw [ls, l2]; rfl)]
              match os, l2, r4', q' with
              | [o, p], _, r4', q' =>
                cases r4' with
                | cons h1 r' =>
                  cases r' with
                  | cons h2 r'' =>
                    cases r''
                    obtain ⟨t1, rfl, ht1⟩ := h1
                    obtain ⟨t2, rfl, ht2⟩ := h2
                    have eb : byR g z [o, p] = rPr z o p := if_pos zp
                    rw [eb] at q'
                    refine iteT ⟨_, rfl, He.ga K "PAIR_RULES", _, .ref ad, rfl, rfl, ⟨es1, n1, _, DP.at_, DP.lit, en, rfl⟩, ?_⟩
                    exact ⟨ad, sp, rfl, esp, _, rfl, D2, _, 0, .ref t1, rfl, rfl, SD, atI_nat (j := 0) rfl, _, rfl, D2, _, 1, .ref t2, rfl, rfl, SD, atI_nat (j := 1) rfl, run t1 t2 o p H4 _ _ ht1 ht2 q'⟩
            · rw [decide_eq_false (show ¬ V.int (srcs.length : Nat) = V.int 2 from fun e => l2 (by have e := V.int.inj e; omega))]
              refine iteF ⟨_, rfl, _, _, rfl, rfl, inS T hz zs.1 zs.2.1 zs.2.2, _, rfl, iteF (iteF (q'.1 ?_))⟩
              match os, l2 with
              | [], _ => rfl
              | [o], _ => exact if_neg (by rintro (h | h | h); exact zs.1 h; exact zs.2.1 h; exact zs.2.2 h)
              | _ :: _ :: _ :: _, _ => rfl
          · have zp1 : ¬ z = "along" := fun e => zp (.inl e)
            have zp2 : ¬ z = "wait" := fun e => zp (.inr e)
            refine ⟨_, rfl, _, _, rfl, rfl, inP T hz zp1 zp2, _, rfl, iteF (iteF ?_)⟩
            by_cases zs : z = "sure" ∨ z = "soon" ∨ z = "ahead"
            · obtain ⟨ad, sp, en, esp, run⟩ := singleAt T zs
              refine ⟨_, rfl, _, _, rfl, rfl, en, _, rfl, iteT ⟨_, rfl, D2, _, rfl, .inl SD, rfl, _, rfl, ?_⟩⟩
              by_cases l1 : os.length = 1
              · rw [decide_eq_true (show V.int (srcs.length : Nat) = V.int 1 by rw [ls, l1]; rfl)]
                have oko : ∀ o ∈ os, okSure g o := fun o ho => by
                  obtain ⟨j, hj⟩ := List.mem_iff_getElem?.mp ho
                  obtain ⟨v, hv⟩ : ∃ v, r[j]? = some v := ⟨_, List.getElem?_eq_getElem (by rw [← lo]; exact (List.getElem?_eq_some_iff.mp hj).1)⟩
                  obtain ⟨o', e', sv⟩ := ato j v hv
                  rw [hj] at e'
                  cases e'
                  obtain ⟨a, _, ea⟩ := srcV_at sv
                  exact oks _ (List.mem_of_getElem? ea)
                match os, l1, r4', q', oko with
                | [o], _, r4', q', oko =>
                  cases r4' with
                  | cons h1 r' =>
                    cases r'
                    obtain ⟨t1, rfl, ht1⟩ := h1
                    have eb : byR g z [o] = rSg z g o := if_pos zs
                    rw [eb] at q'
                    refine iteT ⟨_, rfl, He.ga K "SINGLE_RULES", _, .ref ad, rfl, rfl, ⟨es2, n2, _, DS.at_, DS.lit, en, rfl⟩, ?_⟩
                    exact ⟨ad, sp, rfl, esp, _, rfl, _, rfl, D2, _, 0, .ref t1, rfl, rfl, SD, atI_nat (j := 0) rfl, run d t1 g o H4 _ _ (HD.same sB) ht1 (oko o List.mem_cons_self) q'⟩
              · rw [decide_eq_false (show ¬ V.int (srcs.length : Nat) = V.int 1 from fun e => l1 (by have e := V.int.inj e; omega))]
                refine iteF (q'.1 ?_)
                match os, l1 with
                | [], _ => rfl
                | [o, p], _ => exact if_neg zp
                | _ :: _ :: _ :: _, _ => rfl
            · refine ⟨_, rfl, _, _, rfl, rfl, inS T hz (fun e => zs (.inl e)) (fun e => zs (.inr (.inl e))) (fun e => zs (.inr (.inr e))), _, rfl, iteF (iteF (q'.1 ?_))⟩
              match os with
              | [] => rfl
              | [o] => exact if_neg zs
              | [o, p] => exact if_neg zp
              | _ :: _ :: _ :: _ => rfl
end
end Tw

set_option maxHeartbeats 4000000
namespace Tw
open PySem PySem.Spec PyProof.Rows L2
/-! meaning, of any rows: the list, or the place of the first row that is none -/
theorem lt_mem : ∀ {l : List Ft} {f : Str → Option Ft} {z : Str} {x : Ft}, l.foldl ltS f z = some x → f z = some x ∨ x ∈ l
  | [], _, _, _, h => .inl h
  | y :: r, f, z, x, h => by
    rcases lt_mem (l := r) (f := ltS f y) h with h | h
    · unfold ltS at h
      by_cases c : z = y.a
      · rw [if_pos c] at h
        cases h
        exact .inr List.mem_cons_self
      · rw [if_neg c] at h
        exact .inl h
    · exact .inr (List.mem_cons_of_mem _ h)
/-- the rows that are handed in: empty, or a word of these and few plain things -/
def GR (q : List V) : Prop := q = [] ∨ ∃ (z : Str) (r : List V), q = .str z :: r ∧ z ∈ wds ∧ r.all plnV = true ∧ r.length ≤ 4
abbrev ltM (m : Md) : Str → Option Ft := ltOf ((hs m.wd).map lateF)
def rdG (m : Md) (prev : List Ft) : List V → Option Ft
  | .str z :: r => if z = "told" then tT (bRows m) r else if z = "late" then tL (ltM m) r else mF (hkOf (hs m.wd)) prev z r
  | _ => none
def rdL (m : Md) : List Ft → List (List V) → Sum (List Ft) Nat
  | prev, [] => .inl prev
  | prev, q :: qs => match rdG m prev q with
    | none => .inr prev.length
    | some f => rdL m (prev ++ [f]) qs
theorem rdL_no {m : Md} {prev : List Ft} {qs : List (List V)} {i : Nat} {q : List V} (h : qs[i]? = some q) (e : rdG m prev q = none) : rdL m prev (qs.drop i) = .inr prev.length := by
  obtain ⟨hi, hq⟩ := List.getElem?_eq_some_iff.mp h
  rw [List.drop_eq_getElem_cons hi, hq]
  show (match rdG m prev q with | none => _ | some f => _) = _
  rw [e]
theorem rdL_yes {m : Md} {prev : List Ft} {qs : List (List V)} {i : Nat} {q : List V} {f : Ft} (h : qs[i]? = some q) (e : rdG m prev q = some f) : rdL m prev (qs.drop i) = rdL m (prev ++ [f]) (qs.drop (i + 1)) := by
  obtain ⟨hi, hq⟩ := List.getElem?_eq_some_iff.mp h
  rw [List.drop_eq_getElem_cons hi, hq]
  show (match rdG m prev q with | none => _ | some f => _) = _
  rw [e]
theorem rdL_end {m : Md} {prev : List Ft} {qs : List (List V)} : rdL m prev (qs.drop qs.length) = .inl prev := by
  rw [List.drop_length]
  rfl
theorem mF_no {g : Hk} {prev : List Ft} {z : Str} {r : List V} (h : ¬ (z = "along" ∨ z = "wait") ∧ ¬ (z = "sure" ∨ z = "soon" ∨ z = "ahead")) : mF g prev z r = none := by
  unfold mF
  cases src prev r with
  | none => rfl
  | some os =>
    show byR g z os = none
    match os with
    | [] => rfl
    | [o] => exact if_neg h.2
    | [o, p] => exact if_neg h.1
    | _ :: _ :: _ :: _ => rfl
theorem tT_nil {rs : List (List V)} : tT rs [] = none := rfl
theorem tL_nil {f : Str → Option Ft} : tL f [] = none := rfl
theorem mF_nil {g : Hk} {prev : List Ft} {z : Str} : mF g prev z [] = none := rfl
theorem rdG_one {m : Md} {prev : List Ft} {z : Str} : rdG m prev [.str z] = none := by
  show (if z = "told" then tT (bRows m) [] else if z = "late" then tL (ltM m) [] else mF (hkOf (hs m.wd)) prev z []) = none
  rw [tT_nil, tL_nil, mF_nil]
  by_cases c : z = "told"
  · rw [if_pos c]
  · rw [if_neg c]
    by_cases c : z = "late"
    · rw [if_pos c]
    · rw [if_neg c]
theorem rSure_u {g : Hk} {o f : Ft} (h : rSure g o = some f) : f.u = false := by
  unfold rSure at h
  by_cases d : o.u = true
  · rw [if_pos d] at h
    obtain ⟨y, _, rfl⟩ := Option.map_eq_some_iff.mp h
    rfl
  · rw [if_neg d] at h
    cases h
theorem byR_ok {g : Hk} {z : Str} {os : List Ft} {f : Ft} (oks : ∀ o ∈ os, okSure g o) (h : byR g z os = some f) : okSure g f := by
  intro hu
  match os, oks, h with
  | [], _, h => cases h
  | [o], oks, h =>
    have h : (if z = "sure" ∨ z = "soon" ∨ z = "ahead" then rSg z g o else none) = some f := h
    by_cases c : z = "sure" ∨ z = "soon" ∨ z = "ahead"
    · rw [if_pos c] at h
      unfold rSg at h
      by_cases c1 : z = "sure"
      · rw [if_pos c1] at h
        rw [rSure_u h] at hu
        cases hu
      · rw [if_neg c1] at h
        by_cases c2 : z = "soon"
        · rw [if_pos c2] at h
          unfold rSoon at h
          by_cases d : o.u = false ∧ o.n < 0
          · rw [if_pos d] at h
            obtain ⟨y, _, rfl⟩ := Option.map_eq_some_iff.mp h
            cases hu
          · rw [if_neg d] at h
            cases h
        · rw [if_neg c2] at h
          unfold rAhead at h
          by_cases d : o.u = true ∧ ¬ o.a = o.b ∧ o.n < 0
          · rw [if_pos d] at h
            obtain ⟨y, _, rfl⟩ := Option.map_eq_some_iff.mp h
            exact oks o List.mem_cons_self d.1
          · rw [if_neg d] at h
            cases h
    · rw [if_neg c] at h
      cases h
  | [o, p], oks, h =>
    have h : (if z = "along" ∨ z = "wait" then rPr z o p else none) = some f := h
    by_cases c : z = "along" ∨ z = "wait"
    · rw [if_pos c] at h
      unfold rPr at h
      by_cases c1 : z = "along"
      · rw [if_pos c1] at h
        unfold rAlong at h
        by_cases d : o.u = false ∧ p.u = false ∧ o.b = p.a
        · rw [if_pos d] at h
          cases h
          cases hu
        · rw [if_neg d] at h
          cases h
      · rw [if_neg c1] at h
        unfold rWait at h
        by_cases d : o.u = false ∧ p.u = true ∧ o.b = p.b
        · rw [if_pos d] at h
          cases h
          exact oks p (List.mem_cons_of_mem _ List.mem_cons_self) d.2.1
        · rw [if_neg d] at h
          cases h
    · rw [if_neg c] at h
      cases h
  | _ :: _ :: _ :: _, _, h => cases h
theorem src_ok {prev : List Ft} {P : Ft → Prop} (h : ∀ o ∈ prev, P o) : ∀ {r : List V} {os : List Ft}, src prev r = some os → ∀ o ∈ os, P o
  | [], os, e, o, ho => by
    cases e
    cases ho
  | v :: r, os, e, o, ho => by
    obtain ⟨o1, h1, h2⟩ := Option.bind_eq_some_iff.mp e
    obtain ⟨os', h3, rfl⟩ := Option.map_eq_some_iff.mp h2
    rcases List.mem_cons.mp ho with rfl | ho
    · obtain ⟨a, _, ea⟩ := srcV_at h1
      exact h _ (List.mem_of_getElem? ea)
    · exact src_ok h h3 o ho
theorem hk_in : ∀ {l : List (Str × Str × Int × Int)} {f : Hk} {z : Str}, (f z).isSome = true ∨ z ∈ l.map (·.1) → (l.foldl hkS f z).isSome = true
  | [], _, _, h => by
    rcases h with h | h
    · exact h
    · cases h
  | x :: r, f, z, h => by
    rw [List.foldl_cons]
    refine hk_in ?_
    by_cases c : z = x.1
    · refine .inl ?_
      unfold hkS
      rw [if_pos c]
      rfl
    · rcases h with h | h
      · refine .inl ?_
        unfold hkS
        rw [if_neg c]
        exact h
      · rcases List.mem_cons.mp h with h | h
        · exact absurd h c
        · exact .inr h
theorem rdG_ok {m : Md} {prev : List Ft} {q : List V} {f : Ft} (oks : ∀ o ∈ prev, okSure (hkOf (hs m.wd)) o) (h : rdG m prev q = some f) : okSure (hkOf (hs m.wd)) f := by
  unfold rdG at h
  split at h
  · rename_i z r
    by_cases c : z = "told"
    · rw [if_pos c] at h
      unfold tT at h
      split at h
      · split at h
        · cases h
          intro hu
          cases hu
        · cases h
      · cases h
    · rw [if_neg c] at h
      by_cases c : z = "late"
      · rw [if_pos c] at h
        unfold tL at h
        split at h
        · rename_i k
          rcases lt_mem h with e | e
          · cases e
          · obtain ⟨x, hx, rfl⟩ := List.mem_map.mp e
            intro _
            exact hk_in (.inr (List.mem_map.mpr ⟨x, hx, rfl⟩))
        · cases h
      · rw [if_neg c] at h
        unfold mF at h
        obtain ⟨os, h1, h2⟩ := Option.bind_eq_some_iff.mp h
        exact byR_ok (src_ok oks h1) h2
  · cases h
def FactV (r : Option Ft) (H : Hp) (v : V) : Prop := (r = none → v = .non) ∧ ∀ f, r = some f → ∃ u, v = .ref u ∧ H u = some (.tup f.row)
section
variable {P : Program} {w : World} {K : PySem.W.Frag} {mg : Str → Option Value} {base : Heap}
def sp_meanG (K : PySem.W.Frag) : Sp := fun vs H Q E => ∃ (p L : Addr) (m : Md) (qs : List (List V)) (xs : List V), vs = [.ref p, .ref L] ∧ WebAt (CW K) H p m ∧ (∀ x ∈ m.bd, x.one ∈ m.pts ∧ x.oth ∈ m.pts) ∧ (∀ q ∈ bRows m, q.all okV = true) ∧ (∀ q ∈ bRows m, Fm3 q) ∧ H L = some (.lst xs) ∧ Rows H xs qs ∧ qs.length ≤ 900 ∧ (∀ q ∈ qs, GR q) ∧
  (∀ fs, rdL m [] qs = .inl fs → ∀ (D : Addr) (H' : Hp), Same H H' → H D = none → RowsAt H' D (fs.map Ft.row) → Q (.ref D) H') ∧ (∀ i : Nat, rdL m [] qs = .inr i → Out H E (He.ga K "BadPaper") "BadPaper" "row" (.int (i : Nat)))
theorem calx_meaning (T : Tp K mg) (TB : Tbs w K) : CalX P w K mg base 9 "meaning" (sp_meanG K) := by
  obtain ⟨fd, F⟩ := f_meaning T
  refine calx_of F (g_meaning T) (b_meaning F) sc_meaning (fun vs H Q E h => ?_) (fun cdv A outer s H vs Q E hr h tk => ?_)
  · obtain ⟨p, L, m, qs, xs, rfl, _⟩ := h
    rfl
  · obtain ⟨p, L, m, qs, xs, rfl, W, hpt, okr, fm, hL, R, few, gr, q, qx⟩ := h
    have hu := hu_of hr
    have hlen := W.len
    have hl := hs_len m.wd
    refine ⟨_, (pss_cons (ps_set (i := 2) sc_meaning.nd rfl (.inl rfl) (C8.pe_c (cal_bounds T) hr (by decide) rfl (pa_cons (pv 0) pa_nil)))
      (pss_cons (ps_dcs (i := 3) (own := [("fact", 8)]) (g := gName 8) (tt := tYes) ⟨rfl, rfl, rfl, rfl, by decide +kernel⟩ ⟨rfl, sc_meaning.nd, (pi_list (C8.pe_c (cal_late_waits T) hr (by decide) rfl (pa_cons (pv 0) pa_nil))), blkOk_by (N := N_meaning) (sc := defScope s_meaning) (by decide +kernel), fun _ _ _ _ _ => (pg_name (i := 8) sc_meaning.nd rfl (.inl rfl)), fun _ _ _ _ _ => pts_nil, fun _ _ _ _ _ => (pe_ix (ix_tupK (K := K) rfl) (pv 8) pe_int (fun _ _ => rfl)), fun _ _ _ _ _ => (pv 8), fun _ => rfl⟩)
      (pss_cons (ps_set (i := 4) sc_meaning.nd rfl (.inl rfl) (C8.pe_c (cal_heard_begins T) hr (by decide) rfl (pa_cons (pv 0) pa_nil)))
      (pss_cons (ps_set (i := 5) sc_meaning.nd rfl (.inl rfl) (pe_lst pa_nil))
      (pss_cons (ps_for (passes_of rfl) rfl (pi_enum (by rfl) (z_enumerate T) (pa_cons (pv 1) pa_nil)) (pg_tup rfl (pgs_cons (pg_name (i := 6) sc_meaning.nd rfl (.inl rfl)) (pgs_cons (pg_name (i := 7) sc_meaning.nd rfl (.inl rfl)) pgs_nil)))
        (pss_cons (ps_set (i := 8) sc_meaning.nd rfl (.inl rfl) pe_non)
        (C8.pss_cut (ps_if (PW.pt (pw_and (pt_val (pe_callB call_isK (by rfl) (z_isinstance T) bb_isinstance (pa_cons (pv 7) (pa_cons (pe_bltn (v := .ty "tuple") (by rfl) (z_tuple T) bb_tuple rfl) pa_nil)))) (pw_and (pt_cmpR op_gt (pe_callB call_len_seq (by rfl) (z_len T) bb_len (pa_cons (pv 7) pa_nil)) pe_int (nomark _)) (pw_and1 (pt_val (pe_callB call_isK (by rfl) (z_isinstance T) bb_isinstance (pa_cons (pe_ix ix_tup (pv 7) pe_int (fun _ _ => rfl)) (pa_cons (pe_bltn (v := .ty "str") (by rfl) (z_str T) bb_str rfl) pa_nil)))))))) (pss_one (ps_set (i := 8) sc_meaning.nd rfl (.inl rfl) (pe_orT (C8.pe_c (cal_toldG T) hr (by decide) rfl (pa_cons (pv 2) (pa_cons (pv 7) pa_nil))) (pe_orT (C8.pe_c (cal_lateG T) hr (by decide) rfl (pa_cons (pv 3) (pa_cons (pv 7) pa_nil))) (pe_one (C8.pe_c (cal_madeG T TB) hr (by decide) rfl (pa_cons (pv 4) (pa_cons (pv 5) (pa_cons (pv 7) pa_nil))))))))) pss_nil)
        (pss_cons (ps_if (pt_cmpR op_isN (pv 8) pe_non (nomark _)) (pss_one (ps_raise rfl tk (pmk_b (mkx_BadPaper T) hr (by decide) rfl (pa_cons (pv 6) pa_nil)))) pss_nil)
        (pss_one (ps_expr (pe_bm PySem.F.plainAttrs_list PySem.F.slot_list_append PySem.F.type_list_append mt_append (pv 5) (pa_cons (pv 8) pa_nil))))))))
      (pss_one (ps_ret (pv 5)))))))), ?_⟩
    refine ⟨_, rfl, p, m, rfl, W, hpt, fun B H1 s1 nB RB => ?_⟩
    refine ⟨_, rfl, p, m, rfl, W.same s1, fun LW H2 s2 nLW ⟨ys, hLW, RL⟩ => ⟨LW, rfl, ⟨_, .inl (.inl hLW)⟩, fun D nD => ?_⟩⟩
    have ly : ys.length = ((hs m.wd).map lateF).length := by rw [RL.len, List.length_map]
    have ll : ((hs m.wd).map lateF).length ≤ 4 := by
      rw [List.length_map]
      omega
    refine dc_walk (walk_list (K := K) (a := LW) (xs := ys)) (fun i H3 => Same H2 H3 ∧ ∃ kvs, H3 D = some (.dK kvs) ∧ kvs.length ≤ i ∧ LtK H3 kvs (ltOf (((hs m.wd).map lateF).take i))) ⟨same_upd nD, [], upd_same, Nat.le_refl _, fun z => rfl⟩ (fun i H3 _ h => .inl (.inl (h.1 _ _ hLW))) ?_ ?_
    · rintro i v H3' H3 hi ⟨s3, kvs, d3, n3, k3⟩ ⟨rfl, hv⟩
      obtain ⟨x, ex⟩ : ∃ x, ((hs m.wd).map lateF)[i]? = some x := ⟨_, List.getElem?_eq_getElem (by omega)⟩
      obtain ⟨t, rfl, ht⟩ := rows_at RL hv ex
      have ht3 := s3 _ _ ht
      refine ⟨rfl, yes_i (iteT ⟨_, rfl, t, _, 1, .str x.a, rfl, rfl, .inl (.inl ht3), atI_nat (j := 1) rfl, _, rfl, kvs, kS x.a, rfl, d3, small1000 (by omega), same_put s3 nD, _, upd_same, ?_, ?_⟩)⟩
      · have := length_putK kvs (kS x.a) (.ref t)
        omega
      · have et : ltOf (((hs m.wd).map lateF).take (i + 1)) = ltS (ltOf (((hs m.wd).map lateF).take i)) x := by
          unfold ltOf
          rw [List.take_add_one, ex, List.foldl_append]
          rfl
        rw [et]
        have kk : Kt H3 (upd H3 D (.dK (putK kvs (kS x.a) (.ref t)))) := Kt.upd fun zs z => by
          rw [d3] at z
          cases z
        exact (k3.put ht3).keep kk
    · rintro H3 ⟨s3, kvs, d3, n3, k3⟩
      rw [ly, List.take_length] at k3
      have s13 := (s1.trans s2).trans s3
      refine ⟨_, rfl, p, m, rfl, W.same s13, fun hd H4 s4 nhd HD => ⟨Nat.zero_le _, fun Fa nFa => ?_⟩⟩
      have s14 := s13.trans s4
      have LT : LtD H4 D (ltM m) := LtD.same ⟨kvs, d3, k3⟩ s4
      have RB4 : RowsAt H4 B (bRows m) := by
        obtain ⟨zs, h1, h2⟩ := RB
        have s := (s2.trans s3).trans s4
        exact ⟨zs, s _ _ h1, h2.keep (Kt.of s)⟩
      have hL4 := s14 _ _ hL
      have R4 := R.keep (Kt.of s14)
      have sF := same_upd (o := .lst []) nFa
      have lx : xs.length = qs.length := R.len
      refine ⟨_, rfl, L, xs, rfl, .inl (.inl (sF _ _ hL4)), ?_⟩
      refine for_it (walk_enum (xs := xs)) (fun i σ H' => ∃ (fs : List Ft) (zs : List V) (y6 y7 y8 : Option V), σ = [some (.ref p), some (.ref L), some (.ref B), some (.ref D), some (.ref hd), some (.ref Fa), y6, y7, y8] ∧ Same H4 H' ∧ H' Fa = some (.lst zs) ∧ Rows H' zs (fs.map Ft.row) ∧ fs.length = i ∧ rdL m [] qs = rdL m fs (qs.drop i) ∧ ∀ o ∈ fs, okSure (hkOf (hs m.wd)) o) ⟨[], [], none, none, none, rfl, sF, upd_same, .nil, rfl, rfl, fun o h => nomatch h⟩ (fun i σ H' _ ⟨_, _, _, _, _, _, s, _⟩ => .inl (.inl (s _ _ hL4))) ?_ ?_
      · rintro i v σ H5 H5' hi ⟨fs, zs, y6, y7, y8, rfl, s5, hF5, RF5, lf, erd, oks⟩ ⟨T', x, y, rfl, nT, rfl, ex, ey⟩
        cases ex
        obtain ⟨r, er⟩ : ∃ r, qs[i]? = some r := ⟨_, List.getElem?_eq_getElem (by omega)⟩
        obtain ⟨t, r', rfl, er', ht⟩ := R4.at ey
        rw [er] at er'
        cases er'
        have sT := same_upd (o := .tup [.int (i : Nat), .ref t]) nT
        have s6 := s5.trans sT
        have hF6 := sT _ _ hF5
        have RF6 := RF5.keep (Kt.of sT)
        refine ⟨T', _, rfl, .inl (.inl upd_same), rfl, _, _, rfl, _, _, rfl, rfl, ?_⟩
        generalize upd H5 T' (.tup [.int (i : Nat), .ref t]) = H6 at sT s6 hF6 RF6 ⊢
        have ht6 := s6 _ _ ht
        have S : SqT K H6 t r := .inl (.inl ht6)
        refine ⟨fun σ' H' => ∃ v : V, σ' = [some (.ref p), some (.ref L), some (.ref B), some (.ref D), some (.ref hd), some (.ref Fa), some (.int (i : Nat)), some (.ref t), some v] ∧ Same H6 H' ∧ FactV (rdG m fs r) H' v, ?_, ?_⟩
        · refine ⟨_, rfl, _, "tuple", "tuple", rfl, .base (.tup ht6), by decide, by decide, _, rfl, iteT ⟨_, rfl, t, _, rfl, .inr S, _, _, rfl, rfl, _, rfl, ?_⟩⟩
          have short1 : r.length ≤ 1 → rdG m fs r = none := fun hs1 => by
            rcases gr r (List.mem_of_getElem? er) with e | ⟨z, r2, e, _⟩
            · rw [e]
              rfl
            · subst e
              match r2, hs1 with
              | [], _ => exact rdG_one
              | _ :: _, h => simp at h
          by_cases l2 : 1 < r.length
          · rw [decide_eq_true (show (1 : Int) < (r.length : Nat) by omega)]
            rcases gr r (List.mem_of_getElem? er) with e | ⟨z, r2, e, hz, pl, r24⟩
            · rw [e] at l2
              simp at l2
            subst e
            have r20 : 0 < r2.length := by
              have : (V.str z :: r2).length = r2.length + 1 := rfl
              omega
            refine iteT ⟨_, rfl, t, _, 0, .str z, rfl, rfl, S, atI_nat (j := 0) rfl, _, "str", "str", rfl, .base (.str _), by decide, by decide, _, rfl, iteT ?_⟩
            have RB6 : RowsAt H6 B (bRows m) := by
              obtain ⟨zs, h1, h2⟩ := RB4
              exact ⟨zs, s6 _ _ h1, h2.keep (Kt.of s6)⟩
            have erd1 : rdG m fs (.str z :: r2) = if z = "told" then tT (bRows m) r2 else if z = "late" then tL (ltM m) r2 else mF (hkOf (hs m.wd)) fs z r2 := rfl
            refine ⟨_, rfl, _, rfl, B, t, bRows m, z, r2, rfl, RB6, okr, fm, ht6, pl, r20, r24, fun e1 H7 s7 => ⟨false, rfl, iteF ?_⟩, fun f ef u H7 s7 hu7 => ⟨true, .inr (.inl ⟨_, .inl (.inl hu7), rfl⟩), iteT ⟨.ref u, rfl, s7, ?_⟩⟩⟩
            · refine ⟨_, rfl, _, rfl, D, t, ltM m, z, r2, rfl, (LT.same s6).same s7, s7 _ _ ht6, pl, r20, fun e2 H8 s8 => ⟨false, rfl, iteF ?_⟩, fun f ef u H8 s8 hu8 => ⟨true, .inr (.inl ⟨_, .inl (.inl hu8), rfl⟩), iteT ⟨.ref u, rfl, s7.trans s8, ?_⟩⟩⟩
              · have s78 := s7.trans s8
                refine ⟨_, rfl, _, rfl, _, rfl, hd, Fa, t, hkOf (hs m.wd), fs, zs, z, r2, rfl, (HD.same s6).same s78, s78 _ _ hF6, RF6.keep (Kt.of s78), by omega, s78 _ _ ht6, hz, pl, r20, r24, oks, ?_⟩
                have eM : rdG m fs (.str z :: r2) = mF (hkOf (hs m.wd)) fs z r2 := by
                  rw [erd1]
                  by_cases c : z = "told"
                  · rw [if_pos c] at e1 ⊢
                    rw [e1, mF_no (by subst c; decide +kernel)]
                  · rw [if_neg c]
                    by_cases c : z = "late"
                    · rw [if_pos c] at e2 ⊢
                      rw [e2, mF_no (by subst c; decide +kernel)]
                    · rw [if_neg c]
                refine ⟨fun e3 H9 s9 => ⟨.non, rfl, s78.trans s9, fun _ => rfl, fun f ef => ?_⟩, fun f ef u H9 s9 hu9 => ⟨.ref u, rfl, s78.trans s9, fun e => ?_, fun f' ef' => ⟨u, rfl, ?_⟩⟩⟩
                · rw [eM, e3] at ef
                  cases ef
                · rw [eM, ef] at e
                  cases e
                · rw [eM, ef] at ef'
                  cases ef'
                  exact hu9
              · have eL : rdG m fs (.str z :: r2) = some f := by
                  rw [erd1]
                  by_cases c : z = "late"
                  · rw [if_pos c] at ef
                    rw [if_neg (by subst c; decide +kernel), if_pos c]
                    exact ef
                  · rw [if_neg c] at ef
                    cases ef
                refine ⟨fun e => ?_, fun f' ef' => ⟨u, rfl, ?_⟩⟩
                · rw [eL] at e
                  cases e
                · rw [eL] at ef'
                  cases ef'
                  exact hu8
            · have eT : rdG m fs (.str z :: r2) = some f := by
                rw [erd1]
                by_cases c : z = "told"
                · rw [if_pos c] at ef ⊢
                  exact ef
                · rw [if_neg c] at ef
                  cases ef
              refine ⟨fun e => ?_, fun f' ef' => ⟨u, rfl, ?_⟩⟩
              · rw [eT] at e
                cases e
              · rw [eT] at ef'
                cases ef'
                exact hu7
          · rw [decide_eq_false (show ¬ (1 : Int) < (r.length : Nat) by omega)]
            have e0 := short1 (by omega)
            refine iteF (iteF ⟨.non, rfl, Same.refl _, fun _ => rfl, fun f ef => ?_⟩)
            rw [e0] at ef
            cases ef
        · rintro σ' H7 ⟨v, rfl, s7, fv⟩
          have hF7 := s7 _ _ hF6
          have lz : zs.length = fs.length := by rw [RF5.len, List.length_map]
          refine ⟨_, rfl, rfl, _, rfl, ?_⟩
          cases eg : rdG m fs r with
          | none =>
            cases fv.1 eg
            rw [decide_eq_true (show V.non = V.non from rfl)]
            have e := erd.trans (rdL_no er eg)
            rw [lf] at e
            exact iteT ⟨_, rfl, mk_out ((qx i e).same ((s14.trans s6).trans s7))⟩
          | some f =>
            obtain ⟨u, rfl, hu7⟩ := fv.2 f eg
            rw [decide_eq_false (show ¬ V.ref u = V.non from fun z => by cases z)]
            refine iteF ⟨_, rfl, .inl ⟨rfl, _, .inl (.inl hF7)⟩, _, rfl, Fa, _, _, rfl, rfl, hF7, small1000 (by omega), ?_⟩
            have kF : Kt H7 (upd H7 Fa (.lst (zs ++ [.ref u]))) := Kt.upd fun ws z => by
              rw [hF7] at z
              cases z
            refine ⟨fs ++ [f], zs ++ [.ref u], _, _, _, rfl, same_put (s6.trans s7) nFa, upd_same, ?_, by rw [List.length_append, lf]; rfl, erd.trans (rdL_yes er eg), fun o ho => ?_⟩
            · rw [List.map_append]
              exact ((RF6.keep (Kt.of s7)).snoc hu7).keep kF
            · rcases List.mem_append.mp ho with ho | ho
              · exact oks o ho
              · rw [List.mem_singleton.mp ho]
                exact rdG_ok oks eg
      · rintro σ H5 ⟨fs, zs, y6, y7, y8, rfl, s5, hF5, RF5, lf, erd, oks⟩
        rw [lx, rdL_end] at erd
        exact ⟨_, rfl, q fs erd Fa H5 (s14.trans s5) (s14.free nFa) ⟨zs, hF5, RF5⟩⟩
end
end Tw

set_option maxHeartbeats 4000000
namespace Tw
open PySem PySem.Spec PyProof.Rows L2
/-! _law_read_row and _law_read_rows, of any rows -/
def szOf (z : Str) : Int := if z = "told" then 4 else if z = "late" then 2 else if z = "along" ∨ z = "wait" then 3 else if z = "sure" ∨ z = "soon" ∨ z = "ahead" then 2 else -1
theorem sz_get {z : Str} (hz : z ∈ wds) : (valV (mergeK [] sz0) (kS z)).getD (.int (-1)) = .int (szOf z) := by
  simp only [wds, List.mem_cons, List.not_mem_nil, or_false] at hz
  rcases hz with rfl | rfl | rfl | rfl | rfl | rfl | rfl | rfl | rfl <;> decide +kernel
theorem src_len {prev : List Ft} {r : List V} {os : List Ft} (h : src prev r = some os) : os.length = r.length := (src_at h).1
theorem rdG_size {m : Md} {prev : List Ft} {z : Str} {r : List V} {f : Ft} (h : rdG m prev (.str z :: r) = some f) : szOf z = r.length + 1 := by
  have h : (if z = "told" then tT (bRows m) r else if z = "late" then tL (ltM m) r else mF (hkOf (hs m.wd)) prev z r) = some f := h
  unfold szOf
  by_cases c : z = "told"
  · rw [if_pos c] at h ⊢
    obtain ⟨x, y, n, rfl⟩ := tT_form h
    rfl
  · rw [if_neg c] at h ⊢
    by_cases c : z = "late"
    · rw [if_pos c] at h ⊢
      unfold tL at h
      split at h
      · rfl
      · cases h
    · rw [if_neg c] at h ⊢
      unfold mF at h
      obtain ⟨os, h1, h2⟩ := Option.bind_eq_some_iff.mp h
      have l := src_len h1
      match os, h2, l with
      | [], h2, _ => cases h2
      | [o], h2, l =>
        have h2 : (if z = "sure" ∨ z = "soon" ∨ z = "ahead" then rSg z (hkOf (hs m.wd)) o else none) = some f := h2
        by_cases c1 : z = "sure" ∨ z = "soon" ∨ z = "ahead"
        · have c2 : ¬ (z = "along" ∨ z = "wait") := by
            rcases c1 with rfl | rfl | rfl <;> decide +kernel
          rw [if_neg c2, if_pos c1, ← l]
          rfl
        · rw [if_neg c1] at h2
          cases h2
      | [o, p], h2, l =>
        have h2 : (if z = "along" ∨ z = "wait" then rPr z o p else none) = some f := h2
        by_cases c1 : z = "along" ∨ z = "wait"
        · rw [if_pos c1, ← l]
          rfl
        · rw [if_neg c1] at h2
          cases h2
      | _ :: _ :: _ :: _, h2, _ => cases h2
/-- of three plain things, the last no truth -/
theorem any_three {rs : List (List V)} {a b c : V} (f : ∀ q ∈ rs, Fm3 q) (h : ([a, b, c] : List V).all plnV = true) (hc : ∀ x, c ≠ .bl x) : ((rs.map pdR).any fun z => PyData.eqv z (pdR [a, b, c])) = decide ([a, b, c] ∈ rs) := by
  by_cases c1 : [a, b, c] ∈ rs
  · rw [decide_eq_true c1]
    exact any_row (pln_all h) c1
  · rw [decide_eq_false c1, List.any_eq_false]
    intro z hz e
    obtain ⟨q, hq, rfl⟩ := List.mem_map.mp hz
    obtain ⟨x, y, n, rfl⟩ := f q hq
    have e : (PyData.eqv (pd (.str x)) (pd a) && (PyData.eqv (pd (.str y)) (pd b) && (PyData.eqv (pd (.int n)) (pd c) && true))) = true := e
    rw [Bool.and_eq_true, Bool.and_eq_true, Bool.and_eq_true] at e
    have st : ∀ {x : Str} {v : V}, plnV v = true → PyData.eqv (pd (.str x)) (pd v) = true → v = .str x := by
      intro x v pv e
      cases v with
      | str y =>
        have e : (x == y) = true := e
        rw [eq_of_beq e]
      | int i => cases e
      | bl i => cases e
      | non => cases pv
      | byt _ => cases pv
      | flt _ => cases pv
      | ref _ => cases pv
      | ty _ => cases pv
    have nt : c = .int n := by
      have pv : plnV c = true := List.all_eq_true.mp h c (List.mem_cons_of_mem _ (List.mem_cons_of_mem _ List.mem_cons_self))
      have e := e.2.2.1
      cases c with
      | int i =>
        have e : (n == i) = true := e
        rw [eq_of_beq e]
      | str i => cases e
      | bl i => exact (hc i rfl).elim
      | non => cases pv
      | byt _ => cases pv
      | flt _ => cases pv
      | ref _ => cases pv
      | ty _ => cases pv
    have ea := st (List.all_eq_true.mp h a List.mem_cons_self) e.1
    have eb := st (List.all_eq_true.mp h b (List.mem_cons_of_mem _ List.mem_cons_self)) e.2.1
    subst ea eb nt
    exact c1 hq
def isBl : V → Bool
  | .bl _ => true
  | _ => false
theorem pln_bl {v : V} {a : String} (h : plnV v = true) (e : plK v = some a) : kitT a "bool" = isBl v := by
  cases v with
  | str z =>
    cases e
    rfl
  | int i =>
    cases e
    rfl
  | bl b =>
    cases e
    rfl
  | non => cases h
  | byt b => cases h
  | flt b => cases h
  | ref b => cases h
  | ty b => cases h
theorem scal_str {x : Str} {v : V} (h : plnV v = true) : scal (.str x) v = true := by
  cases v with
  | str z => rfl
  | int i => rfl
  | bl b => rfl
  | non => cases h
  | byt b => cases h
  | flt b => cases h
  | ref b => cases h
  | ty b => cases h
/-- the last ticks of the heard ends of this name -/
theorem late_some {m : Md} {v : V} (nd : ((hs m.wd).map (·.1)).Nodup) : ((hs m.wd).filterMap (fun x => if decide (V.str x.1 = v) = true then some x.2.2.2 else none) = [] ∧ tL (ltM m) [v] = none) ∨ ∃ h ∈ hs m.wd, v = .str h.1 ∧ (hs m.wd).filterMap (fun x => if decide (V.str x.1 = v) = true then some x.2.2.2 else none) = [h.2.2.2] ∧ tL (ltM m) [v] = some (lateF h) := by
  by_cases c : ∃ h ∈ hs m.wd, v = .str h.1
  · obtain ⟨h, hm, rfl⟩ := c
    refine .inr ⟨h, hm, rfl, ?_, late_at nd hm⟩
    rw [show (fun x : Str × Str × Int × Int => if decide (V.str x.1 = V.str h.1) = true then some x.2.2.2 else none) = (fun x => if decide (x.1 = h.1) = true then some x.2.2.2 else none) from funext fun x => by simp]
    exact filter_one nd hm
  · refine .inl ⟨List.filterMap_eq_nil_iff.mpr fun x hx => ?_, ?_⟩
    · rw [if_neg]
      intro e
      exact c ⟨x, hx, (of_decide_eq_true e).symm⟩
    · unfold tL
      split
      · rename_i k e
        cases e
        have : ¬ k ∈ ((hs m.wd).map lateF).map (·.a) := fun hk => by
          obtain ⟨f, hf, rfl⟩ := List.mem_map.mp hk
          obtain ⟨h, hh, rfl⟩ := List.mem_map.mp hf
          exact c ⟨h, hh, rfl⟩
        exact lt_out this
      · rfl
/-- of the model alone, for reading rows -/
structure FixG (m : Md) : Prop where
  lens : m.own.length ≤ 10 ∧ m.wd.length ≤ 4 ∧ m.bd.length ≤ 40
  okr : ∀ q ∈ bRows m, q.all okV = true
  fm : ∀ q ∈ bRows m, Fm3 q
  ndh : ((hs m.wd).map (·.1)).Nodup
section
variable {P : Program} {w : World} {K : PySem.W.Frag} {mg : Str → Option Value} {base : Heap}
def sp_rrowG : Sp := fun vs H Q _ => ∃ (d l t : Addr) (m : Md) (prev : List Ft) (xs : List V) (q : List V), vs = [.ref d, .ref l, .ref t] ∧ MdAt H d m ∧ FixG m ∧ H l = some (.lst xs) ∧ Rows H xs (prev.map Ft.row) ∧ prev.length ≤ 900 ∧ (∀ o ∈ prev, okSure (hkOf (hs m.wd)) o) ∧ H t = some (.tup q) ∧ GR q ∧ MadeS (rdG m prev q) H Q
theorem cal_rrowG (T : Tp K mg) : Cal P w K mg base 9 "_law_read_row" sp_rrowG := by
  obtain ⟨fd, F⟩ := f__law_read_row T
  refine cal_of F (g__law_read_row T) (b__law_read_row F) sc__law_read_row (fun vs H Q E h => ?_) (fun cdv A outer s H vs Q E hr h => ?_)
  · obtain ⟨d, l, t, m, prev, xs, r, rfl, _⟩ := h
    rfl
  · obtain ⟨d, l, t, m, prev, xs, r0, rfl, M, FX, hl, R, few, oks, ht, gr, q⟩ := h
    have lens := FX.lens
    have okr := FX.okr
    have hu := hu_of hr
    have hu64 := hr.units
    have hu65 : (cxOf CX0 P w K mg base N__law_read_row "_law_read_row" (defScope s__law_read_row) (He.ga K "_law_read_row") cdv A outer s H E).nox.A.units + 65 < cLine := hr.in1.units
    refine ⟨_, (pss_cons (ps_set (i := 3) sc__law_read_row.nd rfl (.inl rfl) (pe_disp (pps_cons pe_str pe_int (pps_cons pe_str pe_int (pps_cons pe_str pe_int (pps_cons pe_str pe_int (pps_cons pe_str pe_int (pps_cons pe_str pe_int (pps_cons pe_str pe_int pps_nil))))))) (by rfl) (by rfl) (fun z => by cases z) (by decide)))
      (pss_cons (ps_if (PW.pt (pw_or (pt_cmpR op_eq (pe_callB call_len_seq (by rfl) (z_len T) bb_len (pa_cons (pv 2) pa_nil)) pe_int (nomark _)) (pw_or1 (pt_cmpR op_ne (pe_dget2 hu (pv 3) (pe_ix ix_tup (pv 2) pe_int (fun _ _ => rfl)) (pe_un un_neg pe_int) ⟨rfl, rfl, rfl, rfl⟩) (pe_callB call_len_seq (by rfl) (z_len T) bb_len (pa_cons (pv 2) pa_nil)) (nomark _))))) (pss_one (ps_ret pe_non)) pss_nil)
      (pss_cons (ps_if (pt_cmpR op_eq (pe_ix ix_tup (pv 2) pe_int (fun _ _ => rfl)) pe_str (nomark _)) (pss_cons (ps_set (i := 4) sc__law_read_row.nd rfl (.inl rfl) (pe_and (pe_not (pe_callB call_isK (by rfl) (z_isinstance T) bb_isinstance (pa_cons (pe_ix ix_tup (pv 2) pe_int (fun _ _ => rfl)) (pa_cons (pe_bltn (v := .ty "bool") (by rfl) (z_bool T) bb_bool rfl) pa_nil)))) (pe_one (pe_cmpR (op_inD hu65) (pe_slice sl_tup (pv 2) (po_some pe_int) po_none) (C8.pe_c (cal__law_bounds T) hr (by decide) rfl (pa_cons (pv 0) pa_nil)) (by rfl)))))
        (pss_one (ps_ret (pe_ifExp (pt_val (pv 4)) (pe_op op_catU (pe_tup (pa_cons pe_str pa_nil)) (pe_slice sl_tup (pv 2) (po_some pe_int) po_none)) pe_non)))) pss_nil)
      (pss_cons (ps_if (pt_cmpR op_eq (pe_ix ix_tup (pv 2) pe_int (fun _ _ => rfl)) pe_str (nomark _)) (pss_cons (ps_setLc (i := 5) (own := [("_law_wind_here", 7)]) (g := gName 7) rfl sc__law_read_row.nd rfl rfl (sw_true rfl rfl rfl (by decide +kernel)) (pi_list (C8.pe_c (cal__law_heard T) hr (by decide) rfl (pa_cons (pv 0) pa_nil))) (blkOk_by (N := N__law_read_row) (sc := defScope s__law_read_row) (by decide +kernel)) (fun _ _ _ _ _ => (pg_name (i := 7) sc__law_read_row.nd rfl (.inl rfl))) (fun _ _ _ _ _ => (pts_one (pt_cmpR op_eq (pe_ix (ix_tupK (K := K) rfl) (pv 7) pe_int (fun _ _ => rfl)) (pe_ix (ix_tupK (K := K) rfl) (pv 2) pe_int (fun _ _ => rfl)) (nomark _)))) (fun _ _ _ _ _ => (pe_ix (ix_tupK (K := K) rfl) (pv 7) pe_int (fun _ _ => rfl))))
        (pss_one (ps_ret (pe_ifExp (pt_cmpR (op_neD hu64) (pv 5) (pe_lst pa_nil) (nomark _)) (pe_tup (pa_cons pe_str (pa_cons (pe_ix ix_tup (pv 2) pe_int (fun _ _ => rfl)) (pa_cons (pe_ix ix_tup (pv 2) pe_int (fun _ _ => rfl)) (pa_cons (pe_un un_neg (pe_ix ix_list (pv 5) pe_int (fun _ _ => rfl))) pa_nil))))) pe_non)))) pss_nil)
      (pss_cons (ps_for PassesOwn.never rfl (pi_tup (pe_slice sl_tup (pv 2) (po_some pe_int) po_none)) (pg_name (i := 6) sc__law_read_row.nd rfl (.inl rfl))
        (pss_one (ps_if (pt_not (pt_val (C8.pe_c (cal__law_whole T) hr (by decide) rfl (pa_cons (pv 6) (pa_cons pe_int (pa_cons (pe_op op_sub (pe_callB call_len_seq (by rfl) (z_len T) bb_len (pa_cons (pv 1) pa_nil)) pe_int) pa_nil)))))) (pss_one (ps_ret pe_non)) pss_nil)))
      (pss_cons (ps_if (pt_cmpR op_in_seq (pe_ix ix_tup (pv 2) pe_int (fun _ _ => rfl)) (pe_lst (pa_cons pe_str (pa_cons pe_str pa_nil))) (by rfl)) (pss_one (ps_ret (C8.pe_c (cal__law_read_pair T) hr (by decide) rfl (pa_cons (pv 0) (pa_cons (pe_ix ix_tup (pv 2) pe_int (fun _ _ => rfl)) (pa_cons (pe_ix ix_list (pv 1) (pe_ix ix_tup (pv 2) pe_int (fun _ _ => rfl)) (fun _ _ => rfl)) (pa_cons (pe_ix ix_list (pv 1) (pe_ix ix_tup (pv 2) pe_int (fun _ _ => rfl)) (fun _ _ => rfl)) pa_nil))))))) pss_nil)
      (pss_one (ps_ret (C8.pe_c (cal__law_read_one T) hr (by decide) rfl (pa_cons (pv 0) (pa_cons (pe_ix ix_tup (pv 2) pe_int (fun _ _ => rfl)) (pa_cons (pe_ix ix_list (pv 1) (pe_ix ix_tup (pv 2) pe_int (fun _ _ => rfl)) (fun _ _ => rfl)) pa_nil)))))))))))), ?_⟩
    refine fun Z nZ => ⟨upd_same, sz0, rfl, by decide, ?_⟩
    have sZ : Same H (upd (upd H Z (.dK [])) Z (.dK (mergeK [] sz0))) := same_put (same_upd nZ) nZ
    have hZ : upd (upd H Z (.dK [])) Z (.dK (mergeK [] sz0)) Z = some (.dK (mergeK [] sz0)) := upd_same
    generalize upd (upd H Z (.dK [])) Z (.dK (mergeK [] sz0)) = H1 at sZ hZ ⊢
    have ht1 := sZ _ _ ht
    have S : SqT K H1 t r0 := .inl (.inl ht1)
    have M1 := M.same sZ
    refine ⟨_, rfl, t, _, rfl, .inr S, rfl, _, rfl, ?_⟩
    rcases gr with rfl | ⟨z, r, rfl, hz, pl, r4⟩
    · rw [decide_eq_true (show V.int (([] : List V).length : Nat) = V.int 0 from rfl)]
      exact iteT (iteT (q.1 rfl _ sZ))
    have lr : (V.str z :: r).length = r.length + 1 := rfl
    rw [decide_eq_false (show ¬ V.int ((V.str z :: r).length : Nat) = V.int 0 from fun z => by have := V.int.inj z; omega)]
    refine iteF ⟨_, rfl, Z, rfl, .inl ⟨_, .inl hZ⟩, _, rfl, t, _, 0, .str z, rfl, rfl, S, atI_nat (j := 0) rfl, _, rfl, valV (mergeK [] sz0) (kS z), .inl ⟨_, kS z, .inl hZ, rfl, rfl⟩, ?_⟩
    rw [sz_get hz]
    refine ⟨_, rfl, t, _, rfl, .inr S, rfl, _, rfl, ?_⟩
    by_cases size : szOf z = r.length + 1
    · have erd : rdG m prev (.str z :: r) = if z = "told" then tT (bRows m) r else if z = "late" then tL (ltM m) r else mF (hkOf (hs m.wd)) prev z r := rfl
      rw [erd] at q
      refine iteNS (by rw [lr, size]; rfl) ?_
      refine ⟨_, rfl, t, _, 0, .str z, rfl, rfl, S, atI_nat (j := 0) rfl, rfl, _, rfl, ?_⟩
      by_cases c : z = "told"
      · subst c
        rw [if_pos rfl] at q
        have size : (4 : Int) = r.length + 1 := size
        match r, size, pl, q, S, ht with
        | [], size, _, _, _, _ => cases size
        | [_], size, _, _, _, _ => cases size
        | [_, _], size, _, _, _, _ => cases size
        | _ :: _ :: _ :: _ :: _, size, _, _, _, _ =>
          simp only [List.length_cons] at size
          omega
        | [va, vb, vc], _, pl, q, S, ht =>
          rw [decide_eq_true (show V.str "told" = V.str "told" from rfl)]
          have pc : plnV vc = true := List.all_eq_true.mp pl vc (List.mem_cons_of_mem _ (List.mem_cons_of_mem _ List.mem_cons_self))
          obtain ⟨kc, ekc⟩ := pln_pl pc
          have tyk := fun H0 => plK_ty (K := K) (H := H0) ekc
          refine iteT ⟨_, rfl, t, _, 3, vc, rfl, rfl, S, atI_nat (j := 3) rfl, _, "bool", kc, rfl, (tyk _).1, (tyk H).2, by decide, _, rfl, _, rfl, ?_⟩
          rw [pln_bl pc ekc]
          cases eb : isBl vc with
          | true =>
            refine iteF ⟨_, rfl, _, rfl, iteF (q.1 ?_ _ sZ)⟩
            cases vc with
            | bl b => cases va <;> (try rfl) <;> cases vb <;> rfl
            | str z => cases eb
            | int z => cases eb
            | non => cases eb
            | byt _ => cases eb
            | flt _ => cases eb
            | ref _ => cases eb
            | ty _ => cases eb
          | false =>
            refine iteT ⟨_, rfl, 1, rfl, t, _, rfl, S, (by rintro ⟨e, _⟩; cases e), fun k nk => ?_⟩
            have sk := same_upd (o := .tup [va, vb, vc]) nk
            refine ⟨_, rfl, d, m, rfl, M1.same sk, lens, fun B H2 s2 nB ⟨zs, hB, RB⟩ => ?_⟩
            have okx := pln_all pl
            refine ⟨pdR [va, vb, vc], (bRows m).map pdR, .tup (.inl (.inl (s2 _ _ upd_same))) (dp_all okx), .lst (.inl (.inl hB)) (dp_rows RB okr), shaped_row okx, shaped_rows okr, ?_⟩
            rw [any_three FX.fm pl (fun x e => by rw [e] at eb; cases eb)]
            have s12 := (sZ.trans sk).trans s2
            by_cases cm : [va, vb, vc] ∈ bRows m
            · rw [decide_eq_true cm]
              obtain ⟨x, y, n, er, et⟩ := tT_in FX.fm cm
              rw [et] at q
              injection er with e1 er
              injection er with e2 er
              injection er with e3 er
              subst e1 e2 e3
              refine ⟨_, rfl, _, rfl, iteT ⟨by show 1 ≤ sizeLine; decide, fun a na => ?_⟩⟩
              have sa := s12.trans (same_upd (o := .tup [.str "most"]) na)
              refine ⟨_, rfl, 1, rfl, t, _, rfl, .inl (.inl (sa _ _ ht)), (by rintro ⟨e, _⟩; cases e), fun b nb => ?_⟩
              have sb := same_upd (o := .tup [.str x, .str y, .int n]) nb
              exact ⟨a, b, _, _, rfl, rfl, sb _ _ upd_same, upd_same, by show 1 + 3 ≤ sizeLine; decide, fun u H' s' hu' => q.2 ⟨false, x, y, n⟩ rfl u H' ((sa.trans sb).trans s') hu'⟩
            · rw [decide_eq_false cm]
              exact ⟨_, rfl, _, rfl, iteF (q.1 (tT_no cm) _ s12)⟩
      rw [decide_eq_false (show ¬ V.str z = V.str "told" from fun e => c (V.str.inj e))]
      rw [if_neg c] at q
      refine iteF ⟨_, rfl, t, _, 0, .str z, rfl, rfl, S, atI_nat (j := 0) rfl, rfl, _, rfl, ?_⟩
      by_cases cl : z = "late"
      · subst cl
        rw [if_pos rfl] at q
        have size : (2 : Int) = r.length + 1 := size
        match r, size, pl, q, S, ht with
        | [], size, _, _, _, _ => cases size
        | _ :: _ :: _, size, _, _, _, _ =>
          simp only [List.length_cons] at size
          omega
        | [v], _, pl, q, S, ht =>
          have pv : plnV v = true := List.all_eq_true.mp pl v List.mem_cons_self
          rw [decide_eq_true (show V.str "late" = V.str "late" from rfl)]
          have hl4 := hs_len m.wd
          have hw := lens.2.1
          refine iteT ⟨_, rfl, d, m, rfl, M1, by omega, fun L H2 s2 nL ⟨ys, hL, RL⟩ => ⟨L, rfl, ⟨_, .inl (.inl hL)⟩, fun D nD => ?_⟩⟩
          have s12 := sZ.trans s2
          refine lc_pure (hs m.wd) (walk_listN (by rw [RL.len, List.length_map])) (fun x => if decide (V.str x.1 = v) = true then some x.2.2.2 else none) (SV V.int) (fun _ h => h) nD (by omega) (fun H s => .inl (.inl (s _ _ hL))) ?_ ?_
          · rintro i x u H3 _ ex s3 ⟨rfl, hv⟩ Good Bad kt kf
            obtain ⟨t', rfl, ht'⟩ := rows_at RL hv ex
            have ht3 := s3 _ _ ht'
            refine ⟨rfl, _, rfl, t', _, 0, _, rfl, rfl, .inl (.inl ht3), atI_nat (j := 0) rfl, _, rfl, t, _, 1, v, rfl, rfl, .inl (.inl (s3 _ _ (s12 _ _ ht))), atI_nat (j := 1) rfl, scal_str pv, _, rfl, ?_⟩
            cases e : decide (V.str x.1 = v) with
            | true => exact iteT ⟨_, rfl, t', _, 3, _, rfl, rfl, .inl (.inl ht3), atI_nat (j := 3) rfl, kt _ _ _ (by rw [if_pos e]) (Same.refl _) rfl⟩
            | false => exact iteF (kf (by rw [if_neg (by rw [e]; simp)]) _ (Same.refl _))
          · intro H3 acc s3 d3 p3
            have ea := paired_enc p3
            have s13 := s12.trans s3
            rcases late_some (v := v) FX.ndh with ⟨e1, e2⟩ | ⟨h, hm, rfl, e1, e2⟩
            · rw [e1] at ea
              subst ea
              have d3 : H3 D = some (.lst []) := d3
              refine ⟨_, rfl, Nat.zero_le _, fun E nE => ?_⟩
              have sE := same_upd (o := .lst []) nE
              exact ⟨.list [], .list [], .lst (.inl (.inl (sE _ _ d3))) .nil, .lst (.inl (.inl upd_same)) .nil, rfl, rfl, _, rfl, iteF (q.1 e2 _ (s13.trans sE))⟩
            · rw [e1] at ea
              subst ea
              rw [e2] at q
              have d3 : H3 D = some (.lst [.int h.2.2.2]) := d3
              refine ⟨_, rfl, Nat.zero_le _, fun E nE => ?_⟩
              have sE := same_upd (o := .lst []) nE
              refine ⟨.list [.int h.2.2.2], .list [], .lst (.inl (.inl (sE _ _ d3))) (.cons (.int _) .nil), .lst (.inl (.inl upd_same)) .nil, rfl, rfl, _, rfl, iteT ?_⟩
              have sF := s13.trans sE
              refine ⟨_, rfl, t, _, 1, .str h.1, rfl, rfl, .inl (.inl (sF _ _ ht)), atI_nat (j := 1) rfl, _, rfl, t, _, 1, .str h.1, rfl, rfl, .inl (.inl (sF _ _ ht)), atI_nat (j := 1) rfl, _, rfl, D, _, 0, .int h.2.2.2, rfl, rfl, .inl (.inl (sE _ _ d3)), atI_nat (j := 0) rfl, _, rfl, (by show 4 ≤ sizeLine; decide), fun u nu => ?_⟩
              exact q.2 (lateF h) rfl u _ (sF.trans (same_upd nu)) upd_same
      rw [decide_eq_false (show ¬ V.str z = V.str "late" from fun e => cl (V.str.inj e))]
      rw [if_neg cl] at q
      refine iteF ?_
      have lx : xs.length = prev.length := by rw [R.len, List.length_map]
      refine ⟨_, rfl, 1, rfl, t, _, rfl, S, cut1_ne, fun k nk => ⟨k, rfl, ⟨_, .inl (.inl upd_same)⟩, ?_⟩⟩
      rw [cut_tail r4]
      have sk := same_upd (o := .tup r) nk
      have sA := sZ.trans sk
      refine for_tup (K := K) (a := k) (xs := r) (fun n σ H' => H' = upd H1 k (.tup r) ∧ (∀ j v, j < n → r[j]? = some v → whB 0 ((xs.length : Int) - 1) v = true) ∧ ∃ y6 : Option V, σ = [some (.ref d), some (.ref l), some (.ref t), some (.ref Z), none, none, y6, none]) ⟨rfl, (fun j v hj => absurd hj (Nat.not_lt_zero _)), none, rfl⟩ (fun n σ H' _ h => by rw [h.1]; exact .inl (.inl upd_same)) ?_ ?_
      · rintro n v σ H' hv ⟨rfl, wh, y6, rfl⟩
        obtain ⟨kv, ekv⟩ := pln_pl (List.all_eq_true.mp pl v (List.mem_of_getElem? hv))
        refine ⟨_, rfl, _, rfl, l, xs, rfl, .inl (.inl (.inl (sA _ _ hl))), _, 1, rfl, rfl, v, 0, _, rfl, by rw [ekv]; rfl, _, rfl, ?_⟩
        cases ew : whB 0 ((xs.length : Int) - 1) v with
        | true =>
          refine iteF ⟨rfl, fun j u hj hu' => ?_, _, rfl⟩
          by_cases c : j = n
          · subst c
            rw [hv] at hu'
            cases hu'
            exact ew
          · exact wh j u (by omega) hu'
        | false =>
          refine iteT (q.1 ?_ _ sA)
          unfold mF
          rw [lx] at ew
          have e := src_wh (prev := prev) (r := r)
          have : r.all (whB 0 ((prev.length : Int) - 1)) = false := List.all_eq_false.mpr ⟨v, List.mem_of_getElem? hv, by rw [ew]; simp⟩
          rw [this] at e
          cases es : src prev r with
          | none => rfl
          | some os =>
            rw [es] at e
            cases e
      · rintro σ H' ⟨rfl, wh, y6, rfl⟩
        obtain ⟨os, es⟩ : ∃ os, src prev r = some os := by
          have e := src_wh (prev := prev) (r := r)
          rw [List.all_eq_true.mpr fun v hv => by
            obtain ⟨j, hj⟩ := List.mem_iff_getElem?.mp hv
            have := wh j v (List.getElem?_eq_some_iff.mp hj).1 hj
            rw [lx] at this
            exact this] at e
          exact Option.isSome_iff_exists.mp e.symm
        have em : mF (hkOf (hs m.wd)) prev z r = byR (hkOf (hs m.wd)) z os := by
          unfold mF
          rw [es]
          rfl
        rw [em] at q
        obtain ⟨lo, ato⟩ := src_at es
        have pick : ∀ (i : Nat) (v : V) (o : Ft), r[i]? = some v → os[i]? = some o → ∃ (a : Nat) (t1 : Addr), v = .int (a : Nat) ∧ xs[a]? = some (.ref t1) ∧ H t1 = some (.tup o.row) ∧ okSure (hkOf (hs m.wd)) o := fun i v o hv ho => by
          obtain ⟨o', e', sv⟩ := ato i v hv
          rw [ho] at e'
          cases e'
          obtain ⟨a, rfl, ea⟩ := srcV_at sv
          obtain ⟨x1, e1⟩ : ∃ x, xs[a]? = some x := ⟨_, List.getElem?_eq_getElem (by rw [lx]; exact (List.getElem?_eq_some_iff.mp ea).1)⟩
          obtain ⟨t1, rfl, h1⟩ := rows_at R e1 ea
          exact ⟨a, t1, rfl, e1, h1, oks _ (List.mem_of_getElem? ea)⟩
        have S2 : SqT K (upd H1 k (.tup r)) t (.str z :: r) := .inl (.inl (sA _ _ ht))
        refine ⟨_, rfl, t, _, 0, .str z, rfl, rfl, S2, atI_nat (j := 0) rfl, (by show 2 ≤ sizeLine; decide), fun g ng => ⟨g, (["along", "wait"] : List Str).map V.str, rfl, .inl (.inl (.inl upd_same)), rfl, rfl, _, rfl, ?_⟩⟩
        show if inV (.str z) ((["along", "wait"] : List Str).map V.str) = true then _ else _
        rw [in_strs]
        have sg := sA.trans (same_upd (o := .lst [.str "along", .str "wait"]) ng)
        generalize upd (upd H1 k (.tup r)) g (.lst [.str "along", .str "wait"]) = H3 at sg ⊢
        have S3 : SqT K H3 t (.str z :: r) := .inl (.inl (sg _ _ ht))
        have L3 : SqL K H3 l xs := .inl (.inl (sg _ _ hl))
        unfold szOf at size
        rw [if_neg c, if_neg cl] at size
        by_cases zp : z = "along" ∨ z = "wait"
        · rw [decide_eq_true (show z ∈ (["along", "wait"] : List Str) by rcases zp with rfl | rfl; exact List.mem_cons_self; exact List.mem_cons_of_mem _ List.mem_cons_self)]
          rw [if_pos zp] at size
          match r, os, lo, size, pick, S3, q with
          | [], _, _, size, _, _, _ => cases size
          | [_], _, _, size, _, _, _ => cases size
          | _ :: _ :: _ :: _, _, _, size, _, _, _ =>
            simp only [List.length_cons] at size
            omega
          | [_, _], [], lo, _, _, _, _ => cases lo
          | [_, _], [_], lo, _, _, _, _ => cases lo
          | [_, _], _ :: _ :: _ :: _, lo, _, _, _, _ => simp at lo
          | [v1, v2], [o, p], _, _, pick, S3, q =>
            obtain ⟨i, t1, rfl, e1, h1, _⟩ := pick 0 v1 o rfl rfl
            obtain ⟨j, t2, rfl, e2, h2, _⟩ := pick 1 v2 p rfl rfl
            have eb : byR (hkOf (hs m.wd)) z [o, p] = rPr z o p := if_pos zp
            rw [eb] at q
            exact iteT ⟨_, rfl, _, rfl, t, _, 0, .str z, rfl, rfl, S3, atI_nat (j := 0) rfl, _, rfl, _, rfl, t, _, 1, .int (i : Nat), rfl, rfl, S3, atI_nat (j := 1) rfl, l, xs, (i : Int), .ref t1, rfl, rfl, L3, atI_nat (j := i) e1, _, rfl, _, rfl, t, _, 2, .int (j : Nat), rfl, rfl, S3, atI_nat (j := 2) rfl, l, xs, (j : Int), .ref t2, rfl, rfl, L3, atI_nat (j := j) e2, t1, t2, .ref d, z, o, p, rfl, sg _ _ h1, sg _ _ h2, zp, q.at sg⟩
        · rw [decide_eq_false (show ¬ z ∈ (["along", "wait"] : List Str) from fun h => zp (by
            simp only [List.mem_cons, List.not_mem_nil, or_false] at h
            exact h))]
          rw [if_neg zp] at size
          by_cases zs : z = "sure" ∨ z = "soon" ∨ z = "ahead"
          · rw [if_pos zs] at size
            match r, os, lo, size, pick, S3, q with
            | [], _, _, size, _, _, _ => cases size
            | _ :: _ :: _, _, _, size, _, _, _ =>
              simp only [List.length_cons] at size
              omega
            | [_], [], lo, _, _, _, _ => cases lo
            | [_], _ :: _ :: _, lo, _, _, _, _ => simp at lo
            | [v1], [o], _, _, pick, S3, q =>
              obtain ⟨i, t1, rfl, e1, h1, ok1⟩ := pick 0 v1 o rfl rfl
              have eb : byR (hkOf (hs m.wd)) z [o] = rSg z (hkOf (hs m.wd)) o := if_pos zs
              rw [eb] at q
              exact iteF ⟨_, rfl, _, rfl, t, _, 0, .str z, rfl, rfl, S3, atI_nat (j := 0) rfl, _, rfl, _, rfl, t, _, 1, .int (i : Nat), rfl, rfl, S3, atI_nat (j := 1) rfl, l, xs, (i : Int), .ref t1, rfl, rfl, L3, atI_nat (j := i) e1, d, t1, m, z, o, rfl, M.same sg, lens.2.1, sg _ _ h1, zs, ok1, ⟨fun e H' s' => q.1 e H' (sg.trans s'), fun f e u H' s' hu' => q.2 f e u H' (sg.trans s') hu'⟩⟩
          · rw [if_neg zs] at size
            omega
    · rw [decide_eq_false (show ¬ V.int (szOf z) = V.int ((V.str z :: r).length : Nat) from fun e => size (by have e := V.int.inj e; rw [e, lr]; rfl))]
      refine iteT (q.1 ?_ _ sZ)
      cases e : rdG m prev (.str z :: r) with
      | none => rfl
      | some f => exact (size (rdG_size e)).elim
end
end Tw

set_option maxHeartbeats 4000000
namespace Tw
open PySem PySem.Spec PyProof.Rows L2
/-! a tuple so many times: what stands at the told place -/
theorem times_one (l : Addr) (items : Array Value) (n : Nat) (dd : Option Addr) (sl : Array (Option Value)) (u : Tok) :
    Meets (Builtin.«tuple.__mul__» ⟨[.ref l, .int 1 u], []⟩) (fun _ R s => s.heap.get? l = some { cls := .type "tuple", dict := dd, data := .seq items n, slots := sl } ∧ R (.ok (.ret (.ref l))) s) :=
  .of_wp fun prog w A R s h => by
    obtain ⟨hp, g, d, tk, os⟩ := s
    obtain ⟨hl, h⟩ := h
    have f1 := AutoSeq1.idx_int
    wp_walk using wpAny_loadPart' hl
    exact ⟨_, rfl, h⟩
def rRepU : R2 := fun x y H Q => ∃ l k xs, x = .ref l ∧ y = .int k ∧ H l = some (.tup xs) ∧ xs ≠ [] ∧ 1 ≤ k ∧ k ≤ 1000 ∧ xs.length ≤ 1000 ∧ ∀ p H', Same H H' → H' p = some (.tup (List.replicate k.toNat xs).flatten) → Q (.ref p) H'
theorem op_repU {X : Cx} : OpR X (binaryOp .Mult) rRepU := by
  intro pins s σ H x y v u Q I rx ry h
  obtain ⟨l, k, xs, rfl, rfl, hl, ne, k1, k2, lx, q⟩ := h
  by_cases one : k = 1
  · subst one
    cases rx
    obtain ⟨t, rfl⟩ := ry
    obtain ⟨its, r, ⟨⟨cls, dd, data, sl⟩, ho, hc, n, hd⟩, _⟩ := I.tuple (.inl (.inl hl))
    cases hc
    cases hd
    refine wpAny_binaryOp_repeat_ref (T := "tuple") (U := "int") (by decide) ⟨_, ho, rfl⟩ (fun s' => typeIs_int s' 1 t) noFill_tuple_mul F.fills_int_mul F.slot_int_rmul repeat_tuple F.slot_int_index.lookup
      (call_meets F.slot_int_rmul (typeIs_int s 1 t) F.entry_int_rmul (F.args_int_rmul_2 _ _) (int_rmul_tuple 1 t l its.toArray n dd sl) ⟨ho, rfl, ⟨_, ho, rfl⟩, ?_⟩)
    refine call_meets F.slot_tuple_mul ⟨_, ho, rfl⟩ F.entry_tuple_mul (F.args_tuple_mul_2 _ _) (times_one l its.toArray n dd sl t) ⟨ho, .ref l, H, I, rfl, q l H (Same.refl H) ?_⟩
    rw [hl]
    show some (HO.tup xs) = some (.tup (xs ++ []))
    rw [List.append_nil]
  · exact op_repT pins s σ H _ _ v u Q I rx ry ⟨l, k, xs, rfl, rfl, .inl (.inl hl), ne, by omega, k2, lx, fun p np => q p _ (same_upd np) upd_same⟩
end Tw

set_option maxHeartbeats 4000000
namespace Tw
open PySem PySem.Spec PyProof.Rows L2
/-! _law_read_rows, _law_bent_row, paper_fits of refused rows -/
section
variable {P : Program} {w : World} {K : PySem.W.Frag} {mg : Str → Option Value} {base : Heap}
def sp_rrows : Sp := fun vs H Q _ => ∃ (d L : Addr) (m : Md) (qs : List (List V)) (xs : List V), vs = [.ref d, .ref L] ∧ MdAt H d m ∧ FixG m ∧ H L = some (.lst xs) ∧ Rows H xs qs ∧ qs.length ≤ 900 ∧ (∀ q ∈ qs, GR q) ∧
  (∀ fs, rdL m [] qs = .inl fs → ∀ (t M : Addr) (ms : List V) (H' : Hp), Same H H' → H' t = some (.tup [.ref M, .non]) → H' M = some (.lst ms) → Rows H' ms (fs.map Ft.row) → fs.length ≤ 900 → Q (.ref t) H') ∧ (∀ i : Nat, rdL m [] qs = .inr i → ∀ (t : Addr) (H' : Hp), Same H H' → H' t = some (.tup [.non, .int (i : Nat)]) → Q (.ref t) H')
theorem cal__law_read_rows (T : Tp K mg) : Cal P w K mg base 10 "_law_read_rows" sp_rrows := by
  obtain ⟨fd, F⟩ := f__law_read_rows T
  refine cal_of F (g__law_read_rows T) (b__law_read_rows F) sc__law_read_rows (fun vs H Q E h => ?_) (fun cdv A outer s H vs Q E hr h => ?_)
  · obtain ⟨d, L, m, qs, xs, rfl, _⟩ := h
    rfl
  · obtain ⟨d, L, m, qs, xs, rfl, M0, FX, hL, R, few, gr, q1, q2⟩ := h
    have hu := hu_of hr
    have lx : xs.length = qs.length := R.len
    refine ⟨_, (pss_cons (ps_set (i := 2) sc__law_read_rows.nd rfl (.inl rfl) (pe_lst pa_nil))
      (pss_cons (ps_for PassesOwn.never rfl (pi_list (pv 1)) (pg_name (i := 3) sc__law_read_rows.nd rfl (.inl rfl))
        (pss_cons (ps_set (i := 4) sc__law_read_rows.nd rfl (.inl rfl) (C8.pe_c (cal_rrowG T) hr (by decide) rfl (pa_cons (pv 0) (pa_cons (pv 2) (pa_cons (pv 3) pa_nil)))))
        (pss_cons (ps_if (pt_cmpR op_isN (pv 4) pe_non (nomark _)) (pss_one (ps_ret (pe_tup (pa_cons pe_non (pa_cons (pe_callB call_len_seq (by rfl) (z_len T) bb_len (pa_cons (pv 2) pa_nil)) pa_nil))))) pss_nil)
        (pss_one (ps_expr (pe_bm PySem.F.plainAttrs_list PySem.F.slot_list_append PySem.F.type_list_append mt_append (pv 2) (pa_cons (pv 4) pa_nil)))))))
      (pss_one (ps_ret (pe_tup (pa_cons (pv 2) (pa_cons pe_non pa_nil))))))), ?_⟩
    refine ⟨Nat.zero_le _, fun M nM => ?_⟩
    have sM := same_upd (o := .lst []) nM
    have nLM : L ≠ M := ne_of_none hL nM
    refine ⟨_, rfl, L, rfl, ⟨_, .inl (.inl (sM _ _ hL))⟩, for_list (K := K) (a := L) (xs := xs) (fun i σ H' => ∃ (fs : List Ft) (ms : List V) (y3 y4 : Option V), σ = [some (.ref d), some (.ref L), some (.ref M), y3, y4] ∧ Same H H' ∧ H' M = some (.lst ms) ∧ Rows H' ms (fs.map Ft.row) ∧ fs.length = i ∧ rdL m [] qs = rdL m fs (qs.drop i) ∧ ∀ o ∈ fs, okSure (hkOf (hs m.wd)) o) ⟨[], [], none, none, rfl, sM, upd_same, .nil, rfl, rfl, fun o h => nomatch h⟩ (fun i σ H' _ ⟨_, _, _, _, _, s, _⟩ => .inl (.inl (s _ _ hL))) ?_ ?_⟩
    · rintro i v σ H2 hv ⟨fs, ms, y3, y4, rfl, s2, hM2, RM, lf, erd, oks⟩
      have hi : i < xs.length := (List.getElem?_eq_some_iff.mp hv).1
      obtain ⟨t, r, rfl, er, ht⟩ := R.at hv
      have lm : ms.length = fs.length := by rw [RM.len, List.length_map]
      refine ⟨_, rfl, _, rfl, _, rfl, d, M, t, m, fs, ms, r, rfl, M0.same s2, FX, hM2, RM, by omega, oks, s2 _ _ ht, gr r (List.mem_of_getElem? er), fun e H3 s3 => ?_, fun f e u H3 s3 hu3 => ?_⟩
      · refine ⟨_, rfl, rfl, _, rfl, ?_⟩
        rw [decide_eq_true (show V.non = V.non from rfl)]
        refine iteT ⟨_, rfl, M, ms, rfl, .inl (.inl (.inl (s3 _ _ hM2))), (by show 2 ≤ sizeLine; decide), fun t' nt' => ?_⟩
        have e1 := erd.trans (rdL_no er e)
        have h := q2 fs.length e1 t' _ ((s2.trans s3).trans (same_upd nt')) upd_same
        rw [← lm] at h
        exact h
      · refine ⟨_, rfl, rfl, _, rfl, ?_⟩
        rw [decide_eq_false (show ¬ V.ref u = V.non from fun z => by cases z)]
        have hM3 := s3 _ _ hM2
        refine iteF ⟨_, rfl, .inl ⟨rfl, _, .inl (.inl hM3)⟩, _, rfl, M, _, _, rfl, rfl, hM3, small1000 (by omega), ?_⟩
        have kM : Kt H3 (upd H3 M (.lst (ms ++ [.ref u]))) := Kt.upd fun ws z => by
          rw [hM3] at z
          cases z
        refine ⟨fs ++ [f], ms ++ [.ref u], _, _, rfl, same_put (s2.trans s3) nM, upd_same, ?_, by rw [List.length_append, lf]; rfl, erd.trans (rdL_yes er e), fun o ho => ?_⟩
        · rw [List.map_append]
          exact ((RM.keep (Kt.of s3)).snoc hu3).keep kM
        · rcases List.mem_append.mp ho with ho | ho
          · exact oks o ho
          · rw [List.mem_singleton.mp ho]
            exact rdG_ok oks e
    · rintro σ H2 ⟨fs, ms, y3, y4, rfl, s2, hM2, RM, lf, erd, oks⟩
      rw [lx, rdL_end] at erd
      refine ⟨_, rfl, (by show 2 ≤ sizeLine; decide), fun t nt => ?_⟩
      have st := same_upd (o := .tup [.ref M, .non]) nt
      exact q1 fs erd t M ms _ (s2.trans st) upd_same (st _ _ hM2) (RM.keep (Kt.of st)) (by omega)
/-! ### _law_bent_row -/
theorem gr_of {z : Str} {r : List V} (hz : z ∈ wds) (pl : r.all plnV = true) (l : r.length ≤ 4) : GR (.str z :: r) := .inr ⟨z, r, rfl, hz, pl, l⟩
theorem ok_wds {r : Rw} (h : r.ok) : r.wd ∈ wds := by
  cases r with
  | told x y n =>
    show ("told" : Str) ∈ wds
    decide +kernel
  | late k =>
    show ("late" : Str) ∈ wds
    decide +kernel
  | pr z i j => rcases h with h | h <;> (show z ∈ wds; rw [h]; decide +kernel)
  | sg z i => rcases h with h | h | h <;> (show z ∈ wds; rw [h]; decide +kernel)
theorem Rw.cons (r : Rw) : r.row = .str r.wd :: r.row.tail := by
  cases r <;> rfl
theorem flat_one {x : V} : ∀ {n : Nat}, (List.replicate n [x]).flatten = List.replicate n x
  | 0 => rfl
  | n + 1 => by
    rw [List.replicate_succ, List.replicate_succ, List.flatten_cons, flat_one]
    rfl
def sp_bent : Sp := fun vs H Q _ => ∃ (f c t : Addr) (r : Rw), vs = [.ref f, .ref t] ∧ Flow H f c ∧ H t = some (.tup r.row) ∧ r.ok ∧ r.row.tail.all plnV = true ∧ ∀ (u : Addr) (q : List V) (H' : Hp), Sb f H H' → Flow H' f c → H' u = some (.tup q) → GR q → Q (.ref u) H'
theorem cal__law_bent_row (T : Tp K mg) : Cal P w K mg base 4 "_law_bent_row" sp_bent := by
  obtain ⟨fd, F⟩ := f__law_bent_row T
  refine cal_of F (g__law_bent_row T) (b__law_bent_row F) sc__law_bent_row (fun vs H Q E h => ?_) (fun cdv A outer s H vs Q E hr h => ?_)
  · obtain ⟨f, c, t, r, rfl, _⟩ := h
    rfl
  · obtain ⟨f, c, t, rw0, rfl, FL, ht, ok, pl, q⟩ := h
    have hu := hu_of hr
    obtain ⟨zs, hf⟩ := FL.lst
    have tf : t ≠ f := ne_of ht hf (by intro z; cases z)
    have l2 := rw0.two
    have hzw := ok_wds ok
    have l4 : rw0.row.length ≤ 4 := by cases rw0 <;> simp [Rw.row]
    have ec := rw0.cons
    refine ⟨_, (pss_cons (ps_set (i := 2) sc__law_bent_row.nd rfl (.inl rfl) (C8.pe_c (cal__law_draw T) hr (by decide) rfl (pa_cons (pv 0) (pa_cons pe_int pa_nil))))
      (pss_cons (ps_set (i := 3) sc__law_bent_row.nd rfl (.inl rfl) (C8.pe_c (cal__law_draw T) hr (by decide) rfl (pa_cons (pv 0) (pa_cons (pe_callB call_len_seq (by rfl) (z_len T) bb_len (pa_cons (pv 1) pa_nil)) pa_nil))))
      (pss_cons (ps_if (pt_cmpR op_eq (pv 2) pe_int (nomark _)) (pss_one (ps_ret (pe_tup pa_nil))) pss_nil)
      (pss_cons (ps_if (pt_cmpR op_eq (pv 2) pe_int (nomark _)) (pss_one (ps_ret (pe_slice sl_tupU (pv 1) po_none (po_some (pe_un un_neg pe_int))))) pss_nil)
      (pss_cons (ps_if (pt_cmpR op_eq (pv 2) pe_int (nomark _)) (pss_one (ps_ret (pe_op op_catU (pv 1) (pe_tup (pa_cons pe_int pa_nil))))) pss_nil)
      (pss_cons (ps_if (pt_cmpR op_eq (pv 2) pe_int (nomark _)) (pss_one (ps_ret (pe_op op_catU (pe_tup (pa_cons (C8.pe_c (cal__law_pick T) hr (by decide) rfl (pa_cons (pv 0) (pa_cons (pe_lst (pa_cons pe_str (pa_cons pe_str (pa_cons pe_str (pa_cons pe_str (pa_cons pe_str (pa_cons pe_str (pa_cons pe_str (pa_cons pe_str (pa_cons pe_str pa_nil)))))))))) pa_nil))) pa_nil)) (pe_slice sl_tupU (pv 1) (po_some pe_int) po_none)))) pss_nil)
      (C8.pss_cut (ps_if (PW.pt (pw_and (pt_cmpR op_eq (pe_ix ix_tup (pv 1) pe_int (fun _ _ => rfl)) pe_str (nomark _)) (pw_and1 (PW.pt (pw_or (pt_cmpR op_eq (pv 2) pe_int (nomark _)) (pw_or1 (PW.pt (pw_and (pt_cmpR op_in_seq (pe_ix ix_tup (pv 1) pe_int (fun _ _ => rfl)) (pe_lst (pa_cons pe_int (pa_cons pe_int pa_nil))) (by rfl)) (pw_and1 (pt_cmpR op_lt (pv 2) pe_int (nomark _))))))))))) (pss_one (ps_ret (pe_op op_catU (pe_slice sl_tupU (pv 1) po_none (po_some pe_int)) (pe_tup (pa_cons (pe_cmpR op_gt (pe_ix ix_tup (pv 1) pe_int (fun _ _ => rfl)) pe_int (nomark _)) pa_nil))))) pss_nil)
      (C8.pss_cut (ps_if (PW.pt (pw_and (pt_cmpR op_eq (pv 2) pe_int (nomark _)) (pw_and1 (pt_cmpR op_notIn_seq (pe_ix ix_tup (pv 1) pe_int (fun _ _ => rfl)) (pe_lst (pa_cons pe_str (pa_cons pe_str pa_nil))) (by rfl))))) (pss_one (ps_ret (pe_op op_catU (pe_tup (pa_cons (pe_ix ix_tup (pv 1) pe_int (fun _ _ => rfl)) pa_nil)) (pe_op op_repU (pe_tup (pa_cons pe_bl pa_nil)) (pe_op op_sub (pe_callB call_len_seq (by rfl) (z_len T) bb_len (pa_cons (pv 1) pa_nil)) pe_int))))) pss_nil)
      (pss_cons (ps_if (pt_cmpR op_eq (pe_ix ix_tup (pv 1) pe_int (fun _ _ => rfl)) pe_str (nomark _)) (pss_one (ps_ret (pe_op op_catU (pe_slice sl_tupU (pv 1) po_none (po_some pe_int)) (pe_tup (pa_cons (pe_op op_add (pe_ix ix_tup (pv 1) pe_int (fun _ _ => rfl)) (pe_ix ix_list (pe_lst (pa_cons pe_int (pa_cons (pe_un un_neg pe_int) (pa_cons pe_int pa_nil)))) (C8.pe_c (cal__law_draw T) hr (by decide) rfl (pa_cons (pv 0) (pa_cons pe_int pa_nil))) (fun _ _ => rfl))) pa_nil))))) pss_nil)
      (pss_cons (ps_if (pt_cmpR op_eq (pe_ix ix_tup (pv 1) pe_int (fun _ _ => rfl)) pe_str (nomark _)) (pss_one (ps_ret (pe_tup (pa_cons (pe_ix ix_tup (pv 1) pe_int (fun _ _ => rfl)) (pa_cons (C8.pe_c (cal__law_pick T) hr (by decide) rfl (pa_cons (pv 0) (pa_cons (pe_lst (pa_cons pe_str (pa_cons pe_str (pa_cons pe_str pa_nil)))) pa_nil))) pa_nil))))) pss_nil)
      (pss_cons (ps_if (pt_cmpR op_eq (pv 3) pe_int (nomark _)) (pss_one (ps_ret (pv 1))) pss_nil)
      (pss_one (ps_ret (pe_op op_catU (pe_op op_catU (pe_slice sl_tupU (pv 1) po_none (po_some (pv 3))) (pe_tup (pa_cons (pe_op op_sub (C8.pe_c (cal__law_draw T) hr (by decide) rfl (pa_cons (pv 0) (pa_cons pe_int pa_nil))) pe_int) pa_nil))) (pe_slice sl_tupU (pv 1) (po_some (pe_op op_add (pv 3) pe_int)) po_none))))))))))))))), ?_⟩
    refine ⟨_, rfl, f, c, 9, rfl, FL, by decide, by decide, fun v1 H1 a1 b1 sb1 F1 => ?_⟩
    have ht1 := sb1 _ _ ht tf
    refine ⟨_, rfl, _, rfl, t, _, rfl, .inr (.inl (.inl ht1)), f, c, _, rfl, F1, by omega, by omega, fun v2 H2 a2 b2 sb2 F2 => ?_⟩
    have sbH := sb1.trans sb2
    have ht2 := sb2 _ _ ht1 tf
    have fin : ∀ (u : Addr) (q' : List V) (H' : Hp), Same H2 H' → H' u = some (.tup q') → GR q' → Q (.ref u) H' := fun u q' H' s' e g => q u q' H' (sbH.trans (Sb.of s')) (F2.same s') e g
    generalize er : rw0.row = row at *
    obtain ⟨z, r, rfl⟩ : ∃ z r, row = .str z :: r := ⟨_, _, ec⟩
    have ez : z = rw0.wd := by
      injection ec with e1 e2
      exact V.str.inj e1
    rw [← ez] at hzw
    have pl : r.all plnV = true := pl
    have lr : (V.str z :: r).length = r.length + 1 := rfl
    have r0 : 0 < r.length := by omega
    have r3 : r.length ≤ 3 := by omega
    -- nothing
    refine ⟨_, rfl, rfl, _, rfl, ?_⟩
    refine ite2 (fun _ => ⟨Nat.zero_le _, fun u nu => fin u [] _ (same_upd nu) upd_same (.inl rfl)⟩) (fun _ => ?_)
    -- one fewer
    refine ⟨_, rfl, rfl, _, rfl, ?_⟩
    refine ite2 (fun _ => ⟨_, rfl, _, rfl, _, rfl, t, _, rfl, ht2, fun u H3 s3 e3 => ?_⟩) (fun _ => ?_)
    · obtain ⟨v, i, rfl, _, ec1, _⟩ := cut_last (a := .str z) r0 (by omega)
      rw [ec1] at e3
      refine fin u _ H3 s3 e3 (gr_of hzw ?_ ?_)
      · rw [List.all_append, Bool.and_eq_true] at pl
        exact pl.1
      · rw [List.length_append] at r3
        omega
    -- one more
    refine ⟨_, rfl, rfl, _, rfl, ?_⟩
    refine ite2 (fun _ => ⟨_, rfl, (by show 1 ≤ sizeLine; decide), fun a na => ⟨t, a, _, _, rfl, rfl, same_upd na _ _ ht2, upd_same, (by rw [lr]; exact Nat.le_of_lt (small1000 (by show r.length + 1 + 1 ≤ 1000; omega))), fun u H3 s3 e3 => ?_⟩⟩) (fun _ => ?_)
    · refine fin u (V.str z :: (r ++ [V.int 0])) H3 ((same_upd na).trans s3) e3 (gr_of hzw ?_ ?_)
      · rw [List.all_append, pl]
        rfl
      · rw [List.length_append]
        show r.length + 1 ≤ 4
        omega
    -- another word
    refine ⟨_, rfl, rfl, _, rfl, ?_⟩
    refine ite2 (fun _ => ⟨_, rfl, (by show 9 ≤ sizeLine; decide), fun l nl => ?_⟩) (fun _ => ?_)
    · have sl := same_upd (o := .lst (wds.map V.str)) nl
      obtain ⟨zs2, hf2⟩ := F2.lst
      refine ⟨f, c, l, wds.map V.str, rfl, F2.same sl, upd_same, (ne_of_none hf2 nl).symm, by decide, by decide, fun v H3 hv sb3 F3 => ⟨(by show 1 ≤ sizeLine; decide), fun a na => ?_⟩⟩
      obtain ⟨y, hy, rfl⟩ := List.mem_map.mp hv
      have ht3 := sb3 _ _ (sl _ _ ht2) tf
      have sa := same_upd (o := .tup [.str y]) na
      refine ⟨_, rfl, 1, rfl, t, _, rfl, sa _ _ ht3, fun k H4 s4 e4 => ?_⟩
      rw [cut_tail (by omega)] at e4
      refine ⟨a, k, _, _, rfl, rfl, s4 _ _ upd_same, e4, Nat.le_of_lt (small1000 (by show 1 + r.length ≤ 1000; omega)), fun u H5 s5 e5 => ?_⟩
      exact q u (.str y :: r) H5 (((sbH.trans (Sb.of sl)).trans sb3).trans (Sb.of ((sa.trans s4).trans s5))) (F3.same ((sa.trans s4).trans s5)) e5 (gr_of hy pl (by omega))
    -- told with a truth
    have S2 : SqT K H2 t (.str z :: r) := .inl (.inl ht2)
    refine ⟨fun σ' H' => σ' = [some (.ref f), some (.ref t), some (.int v1), some (.int v2)] ∧ Same H2 H', ?_, ?_⟩
    · refine ⟨_, rfl, t, _, 0, .str z, rfl, rfl, S2, atI_nat (j := 0) rfl, rfl, _, rfl, ?_⟩
      by_cases ct : z = "told"
      · rw [decide_eq_true (show V.str z = V.str "told" by rw [ct])]
        obtain ⟨x, y, n, er2⟩ : ∃ x y n, rw0 = .told x y n := by
          by_cases c : ∃ x y n, rw0 = .told x y n
          · exact c
          · exact absurd (ez.symm.trans ct) (Rw.not_told ok fun x y n e => c ⟨x, y, n, e⟩)
        subst er2
        have er : ([.str "told", .str x, .str y, .int n] : List V) = .str z :: r := er
        injection er with e1 e2
        subst e2
        have body : ∀ H', Same H2 H' → ∀ (k : Addr) (H'' : Hp), Same H' H'' → H'' k = some (.tup [.str z, .str x, .str y]) → ∀ (b : Bool) (a : Addr), H'' a = none → ∀ (u : Addr) (H3 : Hp), Same (upd H'' a (.tup [.bl b])) H3 → H3 u = some (.tup ([.str z, .str x, .str y] ++ [.bl b])) → Q (.ref u) H3 := fun H' s' k H'' s'' ek b a na u H3 s3 e3 => by
          refine fin u _ H3 (((s'.trans s'').trans (same_upd na)).trans s3) e3 (gr_of (r := [.str x, .str y, .bl b]) hzw ?_ (by show 3 ≤ 4; decide))
          have pl : (plnV (.str x) && (plnV (.str y) && (plnV (.int n) && true))) = true := pl
          rw [Bool.and_eq_true, Bool.and_eq_true] at pl
          show (plnV (.str x) && (plnV (.str y) && (plnV (.bl b) && true))) = true
          rw [pl.1, pl.2.1]
          rfl
        have atn : ∀ H', Same H2 H' → SqT K H' t [.str z, .str x, .str y, .int n] := fun H' s' => .inl (.inl (s' _ _ ht2))
        refine iteT ⟨_, rfl, rfl, _, rfl, ?_⟩
        refine ite2 (fun _ => ?_) (fun _ => ?_)
        · exact iteT ⟨_, rfl, 3, rfl, t, _, rfl, ht2, fun k H3 s3 e3 => ⟨_, rfl, t, _, 3, .int n, rfl, rfl, atn H3 s3, atI_nat (j := 3) rfl, n, 0, rfl, rfl, (by show 1 ≤ sizeLine; decide), fun a na => ⟨k, a, _, _, rfl, rfl, same_upd na _ _ e3, upd_same, (by show 3 + 1 ≤ sizeLine; decide), fun u H4 s4 e4 => body H2 (Same.refl _) k H3 s3 e3 _ a na u H4 s4 e4⟩⟩⟩
        · refine ⟨_, rfl, t, _, 3, .int n, rfl, rfl, S2, atI_nat (j := 3) rfl, (by show 2 ≤ sizeLine; decide), fun g ng => ⟨g, [.int 0, .int 1], rfl, .inl (.inl (.inl upd_same)), rfl, rfl, _, rfl, ?_⟩⟩
          have sg := same_upd (o := .lst [.int 0, .int 1]) ng
          refine ite2 (fun _ => ⟨_, rfl, v1, 7, rfl, rfl, _, rfl, ite2 (fun _ => ?_) (fun _ => ⟨rfl, sg⟩)⟩) (fun _ => iteF ⟨rfl, sg⟩)
          exact ⟨_, rfl, 3, rfl, t, _, rfl, sg _ _ ht2, fun k H3 s3 e3 => ⟨_, rfl, t, _, 3, .int n, rfl, rfl, atn H3 (sg.trans s3), atI_nat (j := 3) rfl, n, 0, rfl, rfl, (by show 1 ≤ sizeLine; decide), fun a na => ⟨k, a, _, _, rfl, rfl, same_upd na _ _ e3, upd_same, (by show 3 + 1 ≤ sizeLine; decide), fun u H4 s4 e4 => body _ sg k H3 s3 e3 _ a na u H4 s4 e4⟩⟩⟩
      · rw [decide_eq_false (show ¬ V.str z = V.str "told" from fun e => ct (V.str.inj e))]
        exact iteF (iteF ⟨rfl, Same.refl _⟩)
    rintro σ3 H3 ⟨rfl, s3⟩
    have ht3 := s3 _ _ ht2
    have S3 : SqT K H3 t (.str z :: r) := .inl (.inl ht3)
    -- truths for places
    refine ⟨fun σ' H' => σ' = [some (.ref f), some (.ref t), some (.int v1), some (.int v2)] ∧ Same H2 H', ?_, ?_⟩
    · refine ⟨_, rfl, rfl, _, rfl, ?_⟩
      refine ite2 (fun _ => ?_) (fun _ => iteF ⟨rfl, s3⟩)
      refine ⟨_, rfl, t, _, 0, .str z, rfl, rfl, S3, atI_nat (j := 0) rfl, (by show 2 ≤ sizeLine; decide), fun g ng => ⟨g, (["told", "late"] : List Str).map V.str, rfl, .inl (.inl (.inl upd_same)), rfl, rfl, _, rfl, ?_⟩⟩
      have sg := s3.trans (same_upd (o := .lst [.str "told", .str "late"]) ng)
      refine ite2 (fun _ => ?_) (fun _ => ⟨rfl, sg⟩)
      have ht4 := sg _ _ ht2
      refine ⟨_, rfl, t, _, 0, .str z, rfl, rfl, .inl (.inl ht4), atI_nat (j := 0) rfl, (by show 1 ≤ sizeLine; decide), fun a na => ⟨(by show 1 ≤ sizeLine; decide), fun b nb => ?_⟩⟩
      have sb := same_upd (o := .tup [.bl true]) nb
      have sab := (same_upd (o := .tup [.str z]) na).trans sb
      refine ⟨_, rfl, t, _, rfl, .inr (.inl (.inl (sab _ _ ht4))), _, 1, rfl, rfl, b, _, [.bl true], rfl, rfl, upd_same, by simp, by rw [lr]; omega, by rw [lr]; omega, by decide, fun k H5 s5 e5 => ?_⟩
      refine ⟨a, k, _, _, rfl, rfl, s5 _ _ (sb _ _ upd_same), e5, ?_, fun u H6 s6 e6 => ?_⟩
      · rw [flat_one, List.length_replicate]
        exact Nat.le_of_lt (small1000 (by show 1 + _ ≤ 1000; omega))
      · have el : (List.replicate (((V.str z :: r).length : Nat) - 1 : Int).toNat [V.bl true]).flatten = List.replicate r.length (.bl true) := by
          rw [show (((V.str z :: r).length : Nat) - 1 : Int).toNat = r.length by rw [lr]; omega]
          exact flat_one
        rw [el] at e6
        refine fin u (V.str z :: List.replicate r.length (.bl true)) H6 (((sg.trans sab).trans s5).trans s6) e6 (gr_of hzw ?_ (by rw [List.length_replicate]; omega))
        rw [List.all_eq_true]
        intro x hx
        rw [List.eq_of_mem_replicate hx]
        rfl
    rintro σ4 H4 ⟨rfl, s4⟩
    have ht4 := s4 _ _ ht2
    have S4 : SqT K H4 t (.str z :: r) := .inl (.inl ht4)
    have F4 := F2.same s4
    have sb4 := sbH.trans (Sb.of s4)
    refine ⟨_, rfl, t, _, 0, .str z, rfl, rfl, S4, atI_nat (j := 0) rfl, rfl, _, rfl, ?_⟩
    cases rw0 with
    | told x y n =>
      have er : ([.str "told", .str x, .str y, .int n] : List V) = .str z :: r := er
      injection er with e1 e2
      subst e2
      cases e1
      rw [decide_eq_true (show V.str "told" = V.str "told" from rfl)]
      refine iteT ⟨_, rfl, 3, rfl, t, _, rfl, ht4, fun k H5 s5 e5 => ?_⟩
      refine ⟨_, rfl, t, _, 3, .int n, rfl, rfl, .inl (.inl (s5 _ _ ht4)), atI_nat (j := 3) rfl, _, rfl, (by show 3 ≤ sizeLine; decide), fun g ng => ?_⟩
      have sg := same_upd (o := .lst [.int 1, .int (-1), .int 1000]) ng
      refine ⟨_, rfl, f, c, 3, rfl, F4.same (s5.trans sg), by decide, by decide, fun v3 H6 a3 b3 sb6 F6 => ?_⟩
      obtain ⟨zs5, hf5⟩ := (F4.same s5).lst
      have gf : g ≠ f := (ne_of_none hf5 ng).symm
      obtain ⟨i, hi⟩ : ∃ i : Int, atI ([.int 1, .int (-1), .int 1000] : List V) v3 = some (.int i) := by
        have : v3 = 0 ∨ v3 = 1 ∨ v3 = 2 := by omega
        rcases this with rfl | rfl | rfl <;> exact ⟨_, rfl⟩
      refine ⟨g, _, v3, .int i, rfl, rfl, .inl (.inl (sb6 _ _ upd_same gf)), hi, n, i, rfl, rfl, (by show 1 ≤ sizeLine; decide), fun a na => ?_⟩
      have kf : k ≠ f := fun e => by
        obtain ⟨zs, h⟩ := (F4.same s5).lst
        rw [e, h] at e5
        cases e5
      have ek := same_upd (o := .tup [.int (n + i)]) na _ _ (sb6 _ _ (sg _ _ e5) kf)
      refine ⟨k, a, _, _, rfl, rfl, ek, upd_same, (by show 3 + 1 ≤ sizeLine; decide), fun u H7 s7 e7 => ?_⟩
      have sa := (same_upd (o := .tup [.int (n + i)]) na).trans s7
      refine q u _ H7 (((sb4.trans (Sb.of (s5.trans sg))).trans sb6).trans (Sb.of sa)) (F6.same sa) e7 (gr_of (r := [.str x, .str y, .int (n + i)]) hzw ?_ (by show 3 ≤ 4; decide))
      exact pl
    | late k =>
      have er : ([.str "late", .str k] : List V) = .str z :: r := er
      injection er with e1 e2
      subst e2
      cases e1
      rw [decide_eq_false (show ¬ V.str "late" = V.str "told" by decide +kernel)]
      refine iteF ⟨_, rfl, t, _, 0, .str "late", rfl, rfl, S4, atI_nat (j := 0) rfl, rfl, _, rfl, ?_⟩
      rw [decide_eq_true (show V.str "late" = V.str "late" from rfl)]
      refine iteT ⟨_, rfl, t, _, 0, .str "late", rfl, rfl, S4, atI_nat (j := 0) rfl, _, rfl, (by show 3 ≤ sizeLine; decide), fun l nl => ?_⟩
      have sl := same_upd (o := .lst [.str "gone", .str "start", .str "a"]) nl
      obtain ⟨zs4, hf4⟩ := F4.lst
      refine ⟨f, c, l, _, rfl, F4.same sl, upd_same, (ne_of_none hf4 nl).symm, by decide, by decide, fun v H5 hv sb5 F5 => ⟨(by show 2 ≤ sizeLine; decide), fun u nu => ?_⟩⟩
      refine q u [.str "late", v] _ (((sb4.trans (Sb.of sl)).trans sb5).trans (Sb.of (same_upd nu))) (F5.same (same_upd nu)) upd_same (gr_of hzw ?_ (by show 1 ≤ 4; decide))
      have pv : plnV v = true := by
        simp only [List.mem_cons, List.not_mem_nil, or_false] at hv
        rcases hv with rfl | rfl | rfl <;> decide +kernel
      show (plnV v && true) = true
      rw [pv]
      rfl
    | pr z' i j =>
      have er : ([.str z', .int (i : Nat), .int (j : Nat)] : List V) = .str z :: r := er
      injection er with e1 e2
      subst e2
      cases e1
      rw [decide_eq_false (show ¬ V.str z = V.str "told" from fun e => by rcases ok with h | h <;> (rw [h] at e; exact absurd e (by decide +kernel)))]
      refine iteF ⟨_, rfl, t, _, 0, .str z, rfl, rfl, S4, atI_nat (j := 0) rfl, rfl, _, rfl, ?_⟩
      rw [decide_eq_false (show ¬ V.str z = V.str "late" from fun e => by rcases ok with h | h <;> (rw [h] at e; exact absurd e (by decide +kernel)))]
      refine iteF ⟨_, rfl, rfl, _, rfl, ?_⟩
      refine ite2 (fun _ => ⟨_, rfl, fin t _ H4 s4 ht4 (gr_of hzw pl (by omega))⟩) (fun n0 => ?_)
      have hv : v2 = 1 ∨ v2 = 2 := by
        have n0 : ¬ v2 = 0 := fun e => n0 (decide_eq_true (by rw [e]))
        have : (([.str z, .int (i : Nat), .int (j : Nat)] : List V).length : Int) = 3 := rfl
        omega
      refine ⟨_, rfl, _, rfl, v2, rfl, t, _, rfl, ht4, fun k H5 s5 e5 => ?_⟩
      refine ⟨_, rfl, f, c, 14, rfl, F4.same s5, by decide, by decide, fun v3 H6 a3 b3 sb6 F6 => ⟨_, 1, rfl, rfl, (by show 1 ≤ sizeLine; decide), fun a na => ?_⟩⟩
      have kf : k ≠ f := fun e => by
        obtain ⟨zs, h⟩ := (F4.same s5).lst
        rw [e, h] at e5
        cases e5
      have sa := same_upd (o := .tup [.int (v3 - 1)]) na
      have ek := sa _ _ (sb6 _ _ e5 kf)
      have ht6 := sa _ _ (sb6 _ _ (s5 _ _ ht4) tf)
      rcases hv with rfl | rfl
      · refine ⟨k, a, _, _, rfl, rfl, ek, upd_same, (by show 1 + 1 ≤ sizeLine; decide), fun k2 H7 s7 e7 => ?_⟩
        refine ⟨_, rfl, _, rfl, _, _, rfl, rfl, _, rfl, t, _, rfl, s7 _ _ ht6, fun k3 H8 s8 e8 => ?_⟩
        refine ⟨k2, k3, _, _, rfl, rfl, s8 _ _ e7, e8, (by show 2 + 1 ≤ sizeLine; decide), fun u H9 s9 e9 => ?_⟩
        have st := (sa.trans s7).trans (s8.trans s9)
        exact q u [.str z, .int (v3 - 1), .int (j : Nat)] H9 (((sb4.trans (Sb.of s5)).trans sb6).trans (Sb.of st)) (F6.same st) e9 (gr_of hzw rfl (by show 2 ≤ 4; decide))
      · refine ⟨k, a, _, _, rfl, rfl, ek, upd_same, (by show 2 + 1 ≤ sizeLine; decide), fun k2 H7 s7 e7 => ?_⟩
        refine ⟨_, rfl, _, rfl, _, _, rfl, rfl, _, rfl, t, _, rfl, s7 _ _ ht6, fun k3 H8 s8 e8 => ?_⟩
        refine ⟨k2, k3, _, _, rfl, rfl, s8 _ _ e7, e8, (by show 3 + 0 ≤ sizeLine; decide), fun u H9 s9 e9 => ?_⟩
        have st := (sa.trans s7).trans (s8.trans s9)
        exact q u [.str z, .int (i : Nat), .int (v3 - 1)] H9 (((sb4.trans (Sb.of s5)).trans sb6).trans (Sb.of st)) (F6.same st) e9 (gr_of hzw rfl (by show 2 ≤ 4; decide))
    | sg z' i =>
      have er : ([.str z', .int (i : Nat)] : List V) = .str z :: r := er
      injection er with e1 e2
      subst e2
      cases e1
      rw [decide_eq_false (show ¬ V.str z = V.str "told" from fun e => by rcases ok with h | h | h <;> (rw [h] at e; exact absurd e (by decide +kernel)))]
      refine iteF ⟨_, rfl, t, _, 0, .str z, rfl, rfl, S4, atI_nat (j := 0) rfl, rfl, _, rfl, ?_⟩
      rw [decide_eq_false (show ¬ V.str z = V.str "late" from fun e => by rcases ok with h | h | h <;> (rw [h] at e; exact absurd e (by decide +kernel)))]
      refine iteF ⟨_, rfl, rfl, _, rfl, ?_⟩
      refine ite2 (fun _ => ⟨_, rfl, fin t _ H4 s4 ht4 (gr_of hzw pl (by omega))⟩) (fun n0 => ?_)
      have hv : v2 = 1 := by
        have n0 : ¬ v2 = 0 := fun e => n0 (decide_eq_true (by rw [e]))
        have : (([.str z, .int (i : Nat)] : List V).length : Int) = 2 := rfl
        omega
      subst hv
      refine ⟨_, rfl, _, rfl, 1, rfl, t, _, rfl, ht4, fun k H5 s5 e5 => ?_⟩
      refine ⟨_, rfl, f, c, 14, rfl, F4.same s5, by decide, by decide, fun v3 H6 a3 b3 sb6 F6 => ⟨_, 1, rfl, rfl, (by show 1 ≤ sizeLine; decide), fun a na => ?_⟩⟩
      have kf : k ≠ f := fun e => by
        obtain ⟨zs, h⟩ := (F4.same s5).lst
        rw [e, h] at e5
        cases e5
      have sa := same_upd (o := .tup [.int (v3 - 1)]) na
      have ek := sa _ _ (sb6 _ _ e5 kf)
      have ht6 := sa _ _ (sb6 _ _ (s5 _ _ ht4) tf)
      refine ⟨k, a, _, _, rfl, rfl, ek, upd_same, (by show 1 + 1 ≤ sizeLine; decide), fun k2 H7 s7 e7 => ?_⟩
      refine ⟨_, rfl, _, rfl, _, _, rfl, rfl, _, rfl, t, _, rfl, s7 _ _ ht6, fun k3 H8 s8 e8 => ?_⟩
      refine ⟨k2, k3, _, _, rfl, rfl, s8 _ _ e7, e8, (by show 2 + 0 ≤ sizeLine; decide), fun u H9 s9 e9 => ?_⟩
      have st := (sa.trans s7).trans (s8.trans s9)
      exact q u [.str z, .int (v3 - 1)] H9 (((sb4.trans (Sb.of s5)).trans sb6).trans (Sb.of st)) (F6.same st) e9 (gr_of hzw rfl (by show 1 ≤ 4; decide))
/-! ### paper_fits, of refused rows -/
def sp_fits (K : PySem.W.Frag) : Sp := fun vs H Q _ => ∃ (p L N t : Addr) (m : Md) (qs : List (List V)) (xs : List V) (i : Nat), vs = [.ref p, .ref t] ∧ H t = some (.tup [.ref L, .ref N]) ∧ WebAt (CW K) H p m ∧ (∀ x ∈ m.bd, x.one ∈ m.pts ∧ x.oth ∈ m.pts) ∧ (∀ q ∈ bRows m, q.all okV = true) ∧ (∀ q ∈ bRows m, Fm3 q) ∧ H L = some (.lst xs) ∧ Rows H xs qs ∧ qs.length ≤ 900 ∧ (∀ q ∈ qs, GR q) ∧ rdL m [] qs = .inr i ∧ ∀ H', Same H H' → Q (.bl false) H'
theorem cal_paper_fits (T : Tp K mg) (TB : Tbs w K) : Cal P w K mg base 10 "paper_fits" (sp_fits K) := by
  obtain ⟨fd, F⟩ := f_paper_fits T
  refine cal_of F (g_paper_fits T) (b_paper_fits F) sc_paper_fits (fun vs H Q E h => ?_) (fun cdv A outer s H vs Q E hr h => ?_)
  · obtain ⟨p, L, N, t, m, qs, xs, i, rfl, _⟩ := h
    rfl
  · obtain ⟨p, L, N, t, m, qs, xs, i, rfl, ht, W, hpt, okr, fm, hL, R, few, gr, ei, q⟩ := h
    have hu := hu_of hr
    have S : SqT K H t [.ref L, .ref N] := .inl (.inl ht)
    refine ⟨_, (pss_cons (ps_if (PW.pt (pw_or (pt_not (pt_val (pe_callB call_isK (by rfl) (z_isinstance T) bb_isinstance (pa_cons (pv 1) (pa_cons (pe_bltn (v := .ty "tuple") (by rfl) (z_tuple T) bb_tuple rfl) pa_nil))))) (pw_or (pt_cmpR op_ne (pe_callB call_len_seq (by rfl) (z_len T) bb_len (pa_cons (pv 1) pa_nil)) pe_int (nomark _)) (pw_or1 (pt_not (pt_val (pe_callB call_isK (by rfl) (z_isinstance T) bb_isinstance (pa_cons (pe_ix ix_tup (pv 1) pe_int (fun _ _ => rfl)) (pa_cons (pe_bltn (v := .ty "list") (by rfl) (z_list T) bb_list rfl) pa_nil))))))))) (pss_one (ps_ret pe_bl)) pss_nil)
      (pss_cons (ps_try_only (Wout := fun _ _ _ _ => False) (tb := fun W D σ H => ∃ Ech : XK, (∀ cls d σ' H', Ech cls d H' → W cls d σ' H') ∧ tAsg (tCall (sp_meanG K) [] Ech (tCons (tVar 0) (tCons (tOp (rIxT K) (tVar 1) (tC (.int 0))) tNil))) (gName 2) D σ H) rfl rfl ⟨rfl, by decide, .inl (g_BadPaper T)⟩ takes_none5 (fun W pn xe tk _ => ⟨fun pins s' σ H' D I h' => ?_⟩)
        (ts := fun _ _ _ D σ H => D.rt (.bl false) H) (fun a oe cls d pn hz hf => pss_one (ps_ret pe_bl)))
      pss_never)), ?_⟩
    · obtain ⟨Ech, hW, h'⟩ := h'
      exact (pss_one (ps_set (i := 2) sc_paper_fits.nd rfl (.inl rfl) (pe_cx (calx_meaning T TB) tk hW hr (by decide) rfl (pa_cons (pv 0) (pa_cons (pe_ix ix_tup (pv 1) pe_int (fun _ _ => rfl)) pa_nil))))).run pins s' σ H' D I h'
    · refine ⟨_, rfl, _, "tuple", "tuple", rfl, .base (.tup ht), by decide, by decide, _, rfl, iteF ⟨_, rfl, t, _, rfl, .inr S, rfl, _, rfl, iteF ⟨_, rfl, t, _, 0, .ref L, rfl, rfl, S, atI_nat (j := 0) rfl, _, "list", "list", rfl, .base (.lst hL), by decide, by decide, _, rfl, iteF ?_⟩⟩⟩
      refine ⟨fun cls d H' => cls = .ref (He.ga K "BadPaper") ∧ Same H H', fun cls d σ' H' ⟨e, s'⟩ => ?_, ?_⟩
      · subst e
        exact ⟨true, exm1 (et_BadPaper_paper_fits_0 T), fun _ a na => q H' s', fun e => nomatch e⟩
      · refine ⟨_, rfl, _, rfl, t, _, 0, .ref L, rfl, rfl, S, atI_nat (j := 0) rfl, p, L, m, qs, xs, rfl, W, hpt, okr, fm, hL, R, few, gr, fun fs e => ?_, fun j e d H' s' n' e' => ⟨rfl, s'⟩⟩
        rw [ei] at e
        cases e
end
end Tw

set_option maxHeartbeats 4000000
namespace Tw
open PySem PySem.Spec PyProof.Rows L2
/-- the refusals that are met: the class, its word, its field -/
inductive Fld (K : PySem.W.Frag) : Addr → Str → List V → List (Str × V) → Prop
  | cBadPaper (v0 : V) : Fld K (He.ga K "BadPaper") "BadPaper" [v0] [(("row" : Str), v0), (("word" : Str), V.str "BadPaper")]
def FieldE (K : PySem.W.Frag) (Q : VK) : XK := fun cls d H => ∃ (C dd : Addr) (u : Str) (ws : List V) (fs : List (Str × V)), Fld K C u ws fs ∧ cls = .ref C ∧ d = some dd ∧ H dd = some (.xd fs) ∧ ∀ t, H t = none → Q (.ref t) (upd H t (.tup (.str u :: ws)))
def TTf (K : PySem.W.Frag) : (XK → Hp → VK → Prop) → Hp → VK → Prop := fun tl H Q => tl (FieldE K Q) H fun _ H' => ∃ v, (some (some V.non) : Option (Option V)) = some (some v) ∧ Q v H'
section
variable {X : Cx}
theorem field_gives (T : Tp X.K X.mg) {g : Addr} {cdg : Value} {q : Str} : LamX.GivesTo X N__law_field "_law_field" (defScope s__law_field) g cdg (defBody s__law_field) "_law_ask" q (TTf X.K) := by
  intro f c' s H Q tl act hc h
  refine ⟨_, pss_cons (ps_set (i := 1) sc__law_field.nd rfl (.inl rfl) pe_non) (pss_cons (ps_tryM (X := (cxOf C8.CX0 X.prog X.w X.K X.mg X.base N__law_field "_law_field" (defScope s__law_field) g cdg X.A X.stack s H C8.E0).nox) (i := 2)
    (tb := fun W D σ H => ∃ Ech : XK, (∀ cls d σ' H', Ech cls d H' → W cls d σ' H') ∧ σ[0]? = some (some (.ref f)) ∧ H c' = some (LamX.CodeO c' q) ∧ tl Ech H (fun _ H' => D.nx σ H')) rfl rfl sc__law_field.nd rfl rfl LamX.takes0 (fun W pn xe tk _ => ?_)
    (.cons (.two ⟨rfl, by decide, .inl (g_BadBy T)⟩ ⟨rfl, by decide, .inl (g_BadDeed T)⟩) (ts := fun _ _ _ => tNever) (fun a oe cls d pn hz hf => pss_never)
      (.cons (.three ⟨rfl, by decide, .inl (g_BadName T)⟩ ⟨rfl, by decide, .inl (g_Taken T)⟩ ⟨rfl, by decide, .inl (g_Used T)⟩) (ts := fun _ _ _ => tNever) (fun a oe cls d pn hz hf => pss_never)
      (.cons (.one ⟨rfl, by decide, .inl (g_Full T)⟩) (ts := fun _ _ _ => tNever) (fun a oe cls d pn hz hf => pss_never)
      (.cons (.one ⟨rfl, by decide, .inl (g_BadLength T)⟩) (ts := fun _ _ _ => tNever) (fun a oe cls d pn hz hf => pss_never)
      (.cons (.one ⟨rfl, by decide, .inl (g_BadLate T)⟩) (ts := fun _ _ _ => tNever) (fun a oe cls d pn hz hf => pss_never)
      (.cons (.one ⟨rfl, by decide, .inl (g_BadTie T)⟩) (ts := fun _ _ _ => tNever) (fun a oe cls d pn hz hf => pss_never)
      (.cons (.three ⟨rfl, by decide, .inl (g_NoMoment T)⟩ ⟨rfl, by decide, .inl (g_NoPoint T)⟩ ⟨rfl, by decide, .inl (g_NoSpan T)⟩) (ts := fun _ _ _ => tNever) (fun a oe cls d pn hz hf => pss_never)
      (.cons (.two ⟨rfl, by decide, .inl (g_NoTie T)⟩ ⟨rfl, by decide, .inl (g_NoDeed T)⟩) (ts := fun _ _ _ => tNever) (fun a oe cls d pn hz hf => pss_never)
      (.cons (.three ⟨rfl, by decide, .inl (g_Done T)⟩ ⟨rfl, by decide, .inl (g_Unbegun T)⟩ ⟨rfl, by decide, .inl (g_Unheard T)⟩) (ts := fun _ _ _ => tNever) (fun a oe cls d pn hz hf => pss_never)
      (.cons (.three ⟨rfl, by decide, .inl (g_TooEarly T)⟩ ⟨rfl, by decide, .inl (g_TooLate T)⟩ ⟨rfl, by decide, .inl (g_BadNews T)⟩) (ts := fun _ _ _ => tNever) (fun a oe cls d pn hz hf => pss_never)
      (.cons (.two ⟨rfl, by decide, .inl (g_BadKeeper T)⟩ ⟨rfl, by decide, .inl (g_Over T)⟩) (ts := fun _ _ _ => tNever) (fun a oe cls d pn hz hf => pss_never)
      (.cons (.two ⟨rfl, by decide, .inl (g_BadPaper T)⟩ ⟨rfl, by decide, .inl (g_BadText T)⟩) (fun a oe cls d pn hz hf => pss_one (ps_set (i := 1) sc__law_field.nd rfl (.inl rfl) (pe_tup (pa_cons (pe_xw hz hf (pv 2)) (pa_cons (pe_xw hz hf (pv 2)) pa_nil)))))
      (.cons (.three ⟨rfl, by decide, .inl (g_BadPlan T)⟩ ⟨rfl, by decide, .inl (g_Unsteered T)⟩ ⟨rfl, by decide, .inl (g_NothingBack T)⟩) (ts := fun _ _ _ => tNever) (fun a oe cls d pn hz hf => pss_never)
      .nil)))))))))))))) (pss_one (ps_ret (pv 1)))), ?_⟩
  · refine ⟨fun pins s' σ H' D I h' => ?_⟩
    obtain ⟨Ech, hW, h1, h2, h3⟩ := h'
    exact (pss_one (ps_expr (act W pn xe Ech _ _ tk hW))).run pins s' σ H' D I ⟨h1, h2, h3⟩
  · refine ⟨FieldE X.K Q, fun cls d σ' H' ⟨C, dd, u, ws, fs, hF, ec, ed, hd, hq⟩ hl => ?_, rfl, hc, h⟩
    subst ec ed
    obtain ⟨x0, x1, x2, rfl⟩ : ∃ x0 x1 x2, σ' = [x0, x1, x2] := match σ', hl with
      | [x0, x1, x2], _ => ⟨x0, x1, x2, rfl⟩
    cases hF with
    | cBadPaper v0 => exact ⟨_, em_BadPaper_0 T, (fun z => nomatch z), fun _ => ⟨_, em_BadPaper_1 T, (fun z => nomatch z), fun _ => ⟨_, em_BadPaper_2 T, (fun z => nomatch z), fun _ => ⟨_, em_BadPaper_3 T, (fun z => nomatch z), fun _ => ⟨_, em_BadPaper_4 T, (fun z => nomatch z), fun _ => ⟨_, em_BadPaper_5 T, (fun z => nomatch z), fun _ => ⟨_, em_BadPaper_6 T, (fun z => nomatch z), fun _ => ⟨_, em_BadPaper_7 T, (fun z => nomatch z), fun _ => ⟨_, em_BadPaper_8 T, (fun z => nomatch z), fun _ => ⟨_, em_BadPaper_9 T, (fun z => nomatch z), fun _ => ⟨_, em_BadPaper_10 T, (fun z => nomatch z), fun _ => ⟨_, em_BadPaper_11 T, fun _ a na => ⟨_, rfl, rfl, _, dd, _, _, rfl, xf_BadPaper T, nf_BadPaper_word T, rfl, hd, rfl, _, rfl, rfl, _, dd, _, _, rfl, xf_BadPaper T, nf_BadPaper_row T, rfl, hd, rfl, (by show 2 ≤ sizeLine; decide), fun t nt => ⟨_, rfl, hq t nt⟩⟩, (fun z => nomatch z)⟩⟩⟩⟩⟩⟩⟩⟩⟩⟩⟩⟩
/-- _law_field(lambda: body) -/
theorem pe_lam (T : Tp X.K X.mg) {c Pt : Addr} {k : Nat} {params : Arguments} {body : Expr} {scope : Scope} {t : XK → TE} {p lpos pos : Pos} (TB : LamX.TabB X.base X.mg c Pt) (hcode : X.env.code = .ref c) (hr : Room (k + 2) X.A) (L : LamX.LamS X.env.scope scope)
    (hbody : ∀ (A : Around) (outer : List Env) (s : Shared) (H : Hp) (E : XK) (f c' : Addr), Room k (A.deeper (LamX.lamEnv X scope s.heap.objs.size f c')) → Takes (LamX.lamCx X A outer s H E scope f c') (fun cls d _ H' => E cls d H') → PE (LamX.lamCx X A outer s H E scope f c') body (t E))
    (hg : Gl X "_law_field" := by rfl) (hdef : defaultsOf params X.env = ([], []) := by rfl) (hbind : ∀ (q : Str) (cl : List (Str × Addr)) (pm cv ctv : Value), bindArgs (PySem.W.kla_fn "<lambda>" q params body scope cl pm cv ctv) ⟨[], []⟩ = pure [] := by intros; rfl) :
    PE X (.Call (.Name "_law_field" p) [.Lambda params body scope lpos] [] pos) (LamX.tLam [(Pt, X.env.qual ++ "<lambda>")] (TTf X.K) t) := by
  obtain ⟨fd, F⟩ := f__law_field T
  have b := b__law_field F
  have kp := F.kp
  obtain ⟨oc, od, dV, kV, doc, pm, an, cdv, ct, osl, rfl, lk, hcd, _, _⟩ := F.ex
  exact LamX.pe_lamcall hg (g__law_field T) kp lk hcd b sc__law_field rfl (.inl rfl) (field_gives T) TB hcode List.mem_cons_self (fun p hp _ => by rw [List.mem_singleton.mp hp]) hr L hdef hbind (fun A outer s H E f c' hr' => hbody A outer s H E f c' hr' (takes_of rfl rfl rfl rfl))
/-- _law_field(v), v a name that keeps a lambda -/
theorem pe_lamv (T : Tp X.K X.mg) {f c' : Addr} {i k : Nat} {v : Str} {params : Arguments} {body : Expr} {scope : Scope} {t : XK → TE} {p p2 pos : Pos} (kp : Kept X params body scope f c') (hN : X.N[i]? = some v) (hv : Vis X.env.scope v) (hr : Room (k + 2) X.A) (L : LamX.LamS X.env.scope scope)
    (hbody : ∀ (A : Around) (outer : List Env) (s : Shared) (H : Hp) (E : XK), Room k (A.deeper (LamX.lamEnv X scope s.heap.objs.size f c')) → Takes (LamX.lamCx X A outer s H E scope f c') (fun cls d _ H' => E cls d H') → PE (LamX.lamCx X A outer s H E scope f c') body (t E))
    (hg : Gl X "_law_field" := by rfl) (hbind : ∀ (q : Str) (cl : List (Str × Addr)) (pm cv ctv : Value), bindArgs (PySem.W.kla_fn "<lambda>" q params body scope cl pm cv ctv) ⟨[], []⟩ = pure [] := by intros; rfl)
    (hd2 : (v == ("__debug__" : Str)) = false := by decide) (hcd2 : (v == ("__classdict__" : Str)) = false := by decide) :
    PE X (.Call (.Name "_law_field" p) [.Name v p2] [] pos) (tHand (X.env.qual ++ "<lambda>") f c' i (TTf X.K) t) := by
  obtain ⟨fd, F⟩ := f__law_field T
  have b := b__law_field F
  have kk := F.kp
  obtain ⟨oc, od, dV, kV, doc, pm, an, cdv, ct, osl, rfl, lk, hcd, _, _⟩ := F.ex
  exact pe_hand hg (g__law_field T) kk lk hcd b sc__law_field rfl (.inl rfl) (field_gives T) kp hN hv hr L hbind (fun A outer s H E hr' => hbody A outer s H E hr' (takes_of rfl rfl rfl rfl)) (hd2 := hd2) (hcd2 := hcd2)
end
end Tw

set_option maxHeartbeats 4000000
namespace Tw
open PySem PySem.Spec PyProof.Rows L2
def inL (c : Nat) : Bool := decide (c ∈ letters.cps.toList)
def nmB (z : Str) : Bool := decide (1 ≤ z.length) && (decide (z.length ≤ 8) && z.cps.toList.all inL)
theorem nmB_ok {z : Str} : nmB z = true ↔ Nm z := by
  unfold nmB Nm inL
  simp only [Bool.and_eq_true, decide_eq_true_eq, List.all_eq_true]
end Tw

set_option maxHeartbeats 4000000
namespace Tw
open PySem PySem.Spec PyProof.Rows L2
open LamX (ExtN Tabs)
theorem WebAt.ext {C : Addr} {H H' : Hp} {p : Addr} {m : Md} (W : WebAt C H p m) (e : ExtN H H') : WebAt C H' p m := W.keep (fun dx fs h => e _ _ h fun ps z => by cases z) (fun b xs h => e _ _ h fun ps z => by cases z)
theorem Flow.ext {H H' : Hp} {f c : Addr} (h : Flow H f c) (e : ExtN H H') : Flow H' f c := by
  obtain ⟨ns, i, r, st, e1, e2, e3⟩ := h.ex
  exact ⟨ns, i, r, st, e _ _ e1 (fun ps z => by cases z), e _ _ e2 (fun ps z => by cases z), e3⟩
theorem MdAt.ext {H H' : Hp} {d : Addr} {m : Md} (M : MdAt H d m) (e : ExtN H H') : MdAt H' d m := by
  obtain ⟨o, w, b, ws, bs, h1, h2, h3, h4, h5, h6, h7⟩ := M.ex
  have k : Kt H H' := fun b xs h => e _ _ h fun ps z => by cases z
  exact ⟨o, w, b, ws, bs, e _ _ h1 (fun ps z => by cases z), e _ _ h2 (fun ps z => by cases z), e _ _ h3 (fun ps z => by cases z), h4.keep k, e _ _ h5 (fun ps z => by cases z), h6.keep k, h7⟩
theorem tabs_same {T : List (Addr × Str)} {H H' : Hp} (h : Tabs T H) (s : Same H H') : Tabs T H' := fun p hp => (h p hp).ext s
theorem tabs_sb {T : List (Addr × Str)} {H H' : Hp} {f : Addr} {xs : List V} (h : Tabs T H) (s : Sb f H H') (hf : H f = some (.lst xs)) : Tabs T H' := fun p hp => by
  obtain ⟨ps, h1, h2, h3⟩ := h p hp
  refine ⟨ps, s _ _ h1 (ne_of h1 hf (by intro z; cases z)), h2, fun pos cv hc => ?_⟩
  obtain ⟨c, e1, e2⟩ := h3 pos cv hc
  exact ⟨c, e1, s _ _ e2 (ne_of e2 hf (by intro z; cases z))⟩
theorem kt_lst {H : Hp} {D : Addr} {xs ys : List V} (h : H D = some (.lst xs)) : Kt H (upd H D (.lst ys)) := Kt.upd fun zs z => by
  rw [h] at z
  cases z
theorem pts_nm {m : Md} (ok : MdOk m) {z : Str} (h : z ∈ m.pts) : Nm z := by
  rcases List.mem_cons.mp h with h | h
  · rw [h]
    exact nmB_ok.mp (by decide +kernel)
  · exact (pool_nm (ok.pool z h)).1
theorem nm_len {z : Str} (h : Nm z) : z.length ≤ 1000 := Nat.le_trans h.2.1 (by decide)
theorem sm_two {H : Hp} {a b : Addr} {x y : V} {n : Nat} (h1 : H a = some (.tup [x, y])) (h2 : H b = some (.tup [x, y])) (hx : flatV x = true) (hy : flatV y = true) : Sm (n + 2) (.ref a) (.ref b) H :=
  sm_tup h1 h2 rfl (by show 2 ≤ 1000; decide) (sm_flats (by show (flatV x && (flatV y && true)) = true; rw [hx, hy]; rfl))
theorem sm_pair {H : Hp} {a b : Addr} {x1 x2 y1 y2 : V} {n : Nat} (h1 : H a = some (.lst [x1, x2])) (h2 : H b = some (.lst [y1, y2])) (e1 : Sm n x1 y1 H) (e2 : Sm n x2 y2 H) : Sm (n + 1) (.ref a) (.ref b) H := by
  refine sm_lst h1 h2 rfl (by show 2 ≤ 1000; decide) fun i x y hx hy => ?_
  match i, hx, hy with
  | 0, hx, hy =>
    cases hx
    cases hy
    exact e1
  | 1, hx, hy =>
    cases hx
    cases hy
    exact e2
  | i + 2, hx, hy => cases hx
abbrev qlam : Str := ("law" : Str) ++ ".<locals>." ++ "<lambda>"
theorem tabs_new {P : Addr} {q : Str} {H : Hp} (h : H P = some (.tbl #[])) : Tabs [(P, q)] H := fun p hp => by
  have e := List.mem_singleton.mp hp
  subst e
  exact ⟨#[], h, True.intro, fun pos cv hc => nomatch hc⟩
theorem free_of {l : List Str} (h : (l.all fun z => nmB z && (!pool.contains z && !(z == "start"))) = true) {m : Md} (ok : MdOk m) {z : Str} (hz : z ∈ l) : Nm z ∧ ¬ z ∈ m.pts := by
  have e := List.all_eq_true.mp h z hz
  simp only [Bool.and_eq_true, Bool.not_eq_true', beq_eq_false_iff_ne, ne_eq] at e
  obtain ⟨e1, e2, e3⟩ := e
  refine ⟨nmB_ok.mp e1, fun hm => ?_⟩
  rcases List.mem_cons.mp hm with hm | hm
  · exact e3 hm
  · have := List.contains_iff_mem.mpr (ok.pool z hm)
    rw [e2] at this
    cases this
theorem MdX.addO {H : Hp} {d o w b : Addr} {m : Md} {z : Str} (M : MdX H d o w b m) : MdX (upd H o (.lst (m.own.map V.str ++ [.str z]))) d o w b (m.addM z) := by
  obtain ⟨ws, h1, h2⟩ := M.wd
  obtain ⟨bs, h3, h4⟩ := M.bd
  have k := kt_lst (ys := m.own.map V.str ++ [.str z]) M.own
  refine ⟨by rw [upd_ne (ne_of M.dk M.own (by intro z; cases z))]; exact M.dk, ?_, ⟨ws, by rw [upd_ne M.now.symm]; exact h1, h2.keep k⟩, ⟨bs, by rw [upd_ne M.nob.symm]; exact h3, h4.keep k⟩, M.now, M.nob, M.nwb⟩
  rw [upd_same]
  show _ = some (HO.lst ((m.own ++ [z]).map V.str))
  rw [List.map_append]
  rfl
theorem gone_out {m : Md} (ok : MdOk m) : ¬ ("gone" : Str) ∈ m.pts := fun h => by
  rcases List.mem_cons.mp h with h | h
  · exact absurd h (by decide +kernel)
  · exact absurd (ok.pool _ h) (by decide +kernel)
theorem none_out {m : Md} (ok : MdOk m) : ¬ ("" : Str) ∈ m.pts := fun h => absurd (pts_nm ok h) fun n => absurd (nmB_ok.mpr n) (by decide +kernel)
theorem mk_putWd {l : Int} {o w b w2 : Addr} : putK (mk l o w b) kWd (.ref w2) = mk l o w2 b := by
  have n6 : ¬ kBd = kWd := fun e => k6 e.symm
  unfold putK mk
  rw [if_pos (by rw [List.any_cons, List.any_cons, List.any_cons, decide_eq_true (rfl : kWd = kWd)]; simp)]
  simp only [List.map_cons, List.map_nil, if_neg k2, if_neg k4, if_neg n6, if_true]
/-- what stands all along: the flow, the model, the web, the table of the law's code -/
structure All (K : PySem.W.Frag) (f c d p Pt : Addr) (m : Md) (H : Hp) : Prop where
  fl : Flow H f c
  md : MdAt H d m
  web : WebAt (CW K) H p m
  tab : Tabs [(Pt, qlam)] H
theorem All.same {K : PySem.W.Frag} {f c d p Pt : Addr} {m : Md} {H H' : Hp} (A : All K f c d p Pt m H) (s : Same H H') : All K f c d p Pt m H' := ⟨A.fl.same s, A.md.same s, A.web.same s, tabs_same A.tab s⟩
theorem All.ext {K : PySem.W.Frag} {f c d p Pt : Addr} {m : Md} {H H' : Hp} (A : All K f c d p Pt m H) (e : ExtN H H') (t : Tabs [(Pt, qlam)] H') : All K f c d p Pt m H' := ⟨A.fl.ext e, A.md.ext e, A.web.ext e, t⟩
theorem All.sb {K : PySem.W.Frag} {f c d p Pt : Addr} {m : Md} {H H' : Hp} (A : All K f c d p Pt m H) (s : Sb f H H') (F : Flow H' f c) : All K f c d p Pt m H' := by
  obtain ⟨xs, hf⟩ := A.fl.lst
  exact ⟨F, A.md.sb A.fl s, A.web.sb s hf, tabs_sb A.tab s hf⟩
theorem kt_ext {H H' : Hp} (e : ExtN H H') : Kt H H' := fun b xs h => e _ _ h fun ps z => by cases z
theorem nm_ok {z : Str} (h : Nm z) : PyData.canLay0 (.str z) = true := by
  show z.cps.all (fun c => decide (c < 0x110000)) = true
  rw [Array.all_eq_true']
  intro c hc
  have h1 := h.2.2 c (Array.mem_toList_iff.mpr hc)
  have h2 : (letters.cps.toList.all fun c => decide (c < 0x110000)) = true := by decide +kernel
  exact List.all_eq_true.mp h2 c h1
end Tw

set_option maxHeartbeats 4000000
namespace Tw
open PySem PySem.Spec PyProof.Rows L2
open LamX (ExtN Tabs)
theorem b_fm {m : Md} : ∀ q ∈ bRows m, Fm3 q := fun q h => by
  unfold bRows at h
  rcases List.mem_append.mp h with h | h
  · rcases List.mem_append.mp h with h | h
    · obtain ⟨z, hz, h⟩ := List.mem_flatMap.mp h
      rcases List.mem_cons.mp h with e | e
      · exact ⟨_, _, _, e⟩
      · exact ⟨_, _, _, List.mem_singleton.mp e⟩
    · obtain ⟨z, hz, h⟩ := List.mem_flatMap.mp h
      rcases List.mem_cons.mp h with e | e
      · exact ⟨_, _, _, e⟩
      · exact ⟨_, _, _, List.mem_singleton.mp e⟩
  · obtain ⟨x, hx, h⟩ := List.mem_flatMap.mp h
    rcases List.mem_append.mp h with h | h
    · cases e : x.top with
      | none =>
        rw [e] at h
        cases h
      | some i =>
        rw [e] at h
        exact ⟨_, _, _, List.mem_singleton.mp h⟩
    · cases e : x.bot with
      | none =>
        rw [e] at h
        cases h
      | some i =>
        rw [e] at h
        exact ⟨_, _, _, List.mem_singleton.mp h⟩
theorem lt_key : ∀ {l : List Ft} {f : Str → Option Ft} {z : Str} {x : Ft}, l.foldl ltS f z = some x → f z = some x ∨ x ∈ l ∧ x.a = z
  | [], _, _, _, h => .inl h
  | y :: r, f, z, x, h => by
    rcases lt_key (l := r) (f := ltS f y) h with h | h
    · unfold ltS at h
      by_cases c : z = y.a
      · rw [if_pos c] at h
        cases h
        exact .inr ⟨List.mem_cons_self, c.symm⟩
      · rw [if_neg c] at h
        exact .inl h
    · exact .inr ⟨List.mem_cons_of_mem _ h.1, h.2⟩
theorem step_pln {m : Md} (ok : MdOk m) {prev : List Ft} {f : Ft} {r : Rw} (h : Step m prev f r) : r.row.tail.all plnV = true := by
  cases r with
  | told x y n =>
    have e := b_lay ok _ h.1
    exact e
  | late k =>
    rcases lt_key (show ((hs m.wd).map lateF).foldl ltS (fun _ => none) k = some f from h) with e | ⟨e1, e2⟩
    · cases e
    · obtain ⟨x, hx, rfl⟩ := List.mem_map.mp e1
      have e := pts_lay ok (hs_mem ok hx).1
      have e2 : x.1 = k := e2
      rw [e2] at e
      show (okV (.str k) && true) = true
      rw [e]
      rfl
  | pr z i j => rfl
  | sg z i => rfl
theorem row_gr {r : Rw} (ok : r.ok) (pl : r.row.tail.all plnV = true) : GR r.row := by
  rw [r.cons]
  refine gr_of (ok_wds ok) pl ?_
  cases r <;> simp [Rw.row]
theorem Rows.put {H : Hp} {t : Addr} {r : List V} (ht : H t = some (.tup r)) : ∀ {xs : List V} {rs : List (List V)} {k : Nat}, Rows H xs rs → Rows H (xs.set k (.ref t)) (rs.set k r)
  | _, _, _, .nil => .nil
  | _, _, 0, .cons _ h => .cons ⟨t, rfl, ht⟩ h
  | _, _, k + 1, .cons h h' => .cons h (Rows.put ht h')
theorem ixN_at {n k : Nat} (h : k < n) : ixN n (k : Int) = some k := by
  unfold ixN
  simp
  omega
section
variable {P : Program} {w : World} {K : PySem.W.Frag} {mg : Str → Option Value} {base : Heap}
def sp_law (K : PySem.W.Frag) : Sp := fun vs H Q _ => ∃ (a : Addr) (ns : List Int), vs = [.ref a] ∧ SqL K H a (ns.map V.int) ∧ H (He.cT K ("law", none)).2 = some (.tbl #[]) ∧ ∀ H', Q (.bl true) H'
theorem ok_law (T : Tp K mg) (TS : Tbs w K) (TB0 : LamX.TabB base mg (He.cT K ("law", none)).1 (He.cT K ("law", none)).2) {fd : FuncData} (F : FunD K "law" "law" (defArgs s_law) (defBody s_law) (defScope s_law) [] [] (He.ga K "law") fd) : FnOk P w K mg base CX0 12 (He.ga K "law") fd ["_law_script"] (sp_law K) := by
  obtain ⟨oc, od, dV, kV, doc, pm, an, cdv, ct, osl, rfl, lk, hcd, _, _⟩ := F.ex
  obtain ⟨cc, rfl⟩ := He.codeIn_ref hcd
  have hcc : He.codeOf K ("law", none) = cc := He.codeOf_eq lk rfl
  generalize hPt : (He.cT K ("law", none)).2 = Pt at TB0
  have TB : LamX.TabB base mg cc Pt := by
    rw [← hcc]
    exact TB0
  refine fn_of lk hcd sc_law (fun vs H Q E h => ?_) (fun A outer s H vs Q E hr h => ?_)
  · obtain ⟨a, ns, rfl, _⟩ := h
    rfl
  suffices hh : ∃ t, PSs (cxOf CX0 P w K mg base N_law "law" (defScope s_law) (He.ga K "law") (.ref cc) A outer s H E).nox (defBody s_law) t ∧ t { nx := fun _ H' => Q .non H', rt := Q } (start N_law vs) H by
    obtain ⟨t, h1, h2⟩ := hh
    exact ⟨t, h1.nox, h2⟩
  obtain ⟨a, ns, rfl, hS, hT, q⟩ := h
  rw [hPt] at hT
  have hu := hu_of hr
  have tb0 : Tabs [(Pt, qlam)] H := tabs_new hT
  refine ⟨_, (pss_cons (ps_set (i := 1) sc_law.nd rfl (.inl rfl) (C8.pe_c (cal__law_flow T) hr (by decide) rfl (pa_cons (pv 0) pa_nil)))
      (pss_cons (ps_par3 (i := 2) (j := 3) (l := 4) (by rfl) sc_law.nd rfl rfl rfl (by decide) (by decide) (by decide) rfl rfl rfl (pa_cons (pe_op op_add pe_int (C8.pe_c (cal__law_draw T) hr (by decide) rfl (pa_cons (pv 1) (pa_cons pe_int pa_nil)))) (pa_cons (C8.pe_c (cal__law_draw T) hr (by decide) rfl (pa_cons (pv 1) (pa_cons pe_int pa_nil))) (pa_cons (C8.pe_c (cal__law_draw T) hr (by decide) rfl (pa_cons (pv 1) (pa_cons pe_int pa_nil))) pa_nil))) (by rfl))
      (pss_cons (ps_set (i := 5) sc_law.nd rfl (.inl rfl) (C8.pe_c (cal__law_drawn T) hr (by decide) rfl (pa_cons (pv 1) (pa_cons (pv 2) (pa_cons (pv 3) (pa_cons (pv 4) (pa_cons (pe_op op_add pe_int (C8.pe_c (cal__law_draw T) hr (by decide) rfl (pa_cons (pv 1) (pa_cons pe_int pa_nil)))) (pa_cons (pe_op op_add pe_int (C8.pe_c (cal__law_draw T) hr (by decide) rfl (pa_cons (pv 1) (pa_cons pe_int pa_nil)))) pa_nil))))))))
      (pss_cons (ps_set (i := 6) sc_law.nd rfl (.inr rfl) (C8.pe_c (cal__law_web T) hr (by decide) rfl (pa_cons (pv 5) pa_nil)))
      (pss_cons (ps_asg (C8.pe_c (cal__law_some_rows T) hr (by decide) rfl (pa_cons (pv 1) (pa_cons (pv 5) (pa_cons (pe_op op_add pe_int (C8.pe_c (cal__law_draw T) hr (by decide) rfl (pa_cons (pv 1) (pa_cons pe_int pa_nil)))) pa_nil)))) (pg_tup rfl (pgs_cons (pg_name (i := 7) sc_law.nd rfl (.inl rfl)) (pgs_cons (pg_name (i := 8) sc_law.nd rfl (.inl rfl)) pgs_nil))))
      (pss_cons (ps_for PassesOwn.never rfl (pi_range1 rfl (z_range T) (pa_cons pe_int pa_nil)) (pg_name (i := 9) sc_law.nd rfl (.inl rfl))
        (pss_cons (ps_set (i := 10) sc_law.nd rfl (.inr rfl) (pe_callTy call_list_of (by rfl) (z_list T) bb_list (pa_cons (pv 7) pa_nil)))
        (pss_cons (ps_for PassesOwn.never rfl (pi_range1 rfl (z_range T) (pa_cons (pe_op op_add pe_int (C8.pe_c (cal__law_draw T) hr (by decide) rfl (pa_cons (pv 1) (pa_cons pe_int pa_nil)))) pa_nil)) (pg_name (i := 11) sc_law.nd rfl (.inl rfl))
          (pss_cons (ps_set (i := 12) sc_law.nd rfl (.inl rfl) (C8.pe_c (cal__law_draw T) hr (by decide) rfl (pa_cons (pv 1) (pa_cons (pe_callB call_len_seq (by rfl) (z_len T) bb_len (pa_cons (pv 10) pa_nil)) pa_nil))))
          (pss_one (ps_asg (C8.pe_c (cal__law_bent_row T) hr (by decide) rfl (pa_cons (pv 1) (pa_cons (pe_ix ix_list (pv 7) (pv 12) (fun _ _ => rfl)) pa_nil))) (pg_sub (pv 10) (pv 12) set_list)))))
        (pss_cons (ps_asg (C8.pe_c (cal__law_read_rows T) hr (by decide) rfl (pa_cons (pv 5) (pa_cons (pv 10) pa_nil))) (pg_tup rfl (pgs_cons (pg_name (i := 8) sc_law.nd rfl (.inl rfl)) (pgs_cons (pg_name (i := 12) sc_law.nd rfl (.inl rfl)) pgs_nil))))
        (pss_cons (ps_set (i := 13) sc_law.nd rfl (.inl rfl) (pe_lam T TB rfl hr (LamX.lamS_by (sc := defScope s_law) (by decide +kernel)) (fun A' outer' s' H' E' f' c' hr tk => (pe_cx (calx_meaning T TS) tk (fun _ _ _ _ h => h) hr (by decide) rfl (pa_cons (pv 6) (pa_cons (pv 10) pa_nil))))))
        (pss_cons (ps_if (pt_not (pt_val (C8.pe_c (cal__law_same T) hr (by decide) rfl (pa_cons (pv 13) (pa_cons (pe_ifExp (pt_cmpR op_isN (pv 12) pe_non (nomark _)) pe_non (pe_tup (pa_cons pe_str (pa_cons (pv 12) pa_nil)))) pa_nil))))) (pss_one (ps_ret pe_bl)) pss_nil)
        (pss_cons (ps_if (PW.pt (pw_and (pt_cmpR op_isN (pv 12) pe_non (nomark _)) (pw_and1 (pt_not (pt_val (C8.pe_c (cal__law_same T) hr (by decide) rfl (pa_cons (C8.pe_c (CalX.calm (calx_meaning T TS)) hr (by decide) rfl (pa_cons (pv 6) (pa_cons (pv 10) pa_nil))) (pa_cons (pv 8) pa_nil)))))))) (pss_one (ps_ret pe_bl)) pss_nil)
        (pss_one (ps_if (PW.pt (pw_and (pt_cmpR op_notN (pv 12) pe_non (nomark _)) (pw_and1 (pt_cmpR op_isnot_bl (C8.pe_c (cal_paper_fits T TS) hr (by decide) rfl (pa_cons (pv 6) (pa_cons (pe_tup (pa_cons (pv 10) (pa_cons (pe_lst (pa_cons pe_int pa_nil)) pa_nil))) pa_nil))) pe_bl (nomark _))))) (pss_one (ps_ret pe_bl)) pss_nil)))))))))
      (pss_one (ps_ret (C8.pe_c (cal__law_stands T) hr (by decide) rfl (pa_cons (pv 6) (pa_cons (pv 5) pa_nil))))))))))), ?_⟩
  refine ⟨_, rfl, a, ns, rfl, hS, fun f c H1 s1 nf nc F1 => ?_⟩
  refine ⟨_, rfl, f, c, 3, rfl, F1, by decide, by decide, fun v1 H2 a1 b1 sb1 F2 => ⟨1, v1, rfl, rfl, _, rfl, f, c, 4, rfl, F2, by decide, by decide, fun v2 H3 a2 b2 sb2 F3 => ⟨_, rfl, f, c, 5, rfl, F3, by decide, by decide, fun v3 H4 a3 b3 sb3 F4 => ⟨_, _, _, rfl, ?_⟩⟩⟩⟩
  refine ⟨_, rfl, _, rfl, _, rfl, _, rfl, _, rfl, f, c, 9, rfl, F4, by decide, by decide, fun v4 H5 a4 b4 sb4 F5 => ⟨1, v4, rfl, rfl, _, rfl, f, c, 40, rfl, F5, by decide, by decide, fun v5 H6 a5 b5 sb5 F6 => ⟨1, v5, rfl, rfl, f, c, 1 + v1, v2, v3, 1 + v4, 1 + v5, rfl, F6, by omega, by omega, by omega, by omega, by omega, by omega, by omega, by omega, by omega, by omega, by omega, fun d m H7 sb7 F7 nd M ok _ lo _ _ _ => ?_⟩⟩⟩
  obtain ⟨zs1, hf1⟩ := F1.lst
  have tb7 : Tabs [(Pt, qlam)] H7 := tabs_sb (tabs_same tb0 s1) (((((sb1.trans sb2).trans sb3).trans sb4).trans sb5).trans sb7) hf1
  refine ⟨_, rfl, d, m, rfl, M, ok, fun p H8 s8 np W => ?_⟩
  have A8 : All K f c d p Pt m H8 := ⟨F7.same s8, M.same s8, W, tabs_same tb7 s8⟩
  have FX := fix_of ok (by rw [lo]; omega)
  have FG : FixG m := ⟨FX.lens, FX.okr, b_fm, FX.ndh⟩
  have hpt : ∀ x ∈ m.bd, x.one ∈ m.pts ∧ x.oth ∈ m.pts := fun x hx => ⟨(ok.bd x hx).one, (ok.bd x hx).oth⟩
  refine ⟨_, rfl, _, rfl, _, rfl, f, c, 12, rfl, A8.fl, by decide, by decide, fun v6 H9 a6 b6 sb9 F9 => ⟨1, v6, rfl, rfl, ?_⟩⟩
  have A9 := A8.sb sb9 F9
  refine ⟨f, c, d, m, 1 + v6, rfl, F9, A9.md, FX, by omega, by omega, fun t R Mk rs ms rws fs H10 sb10 F10 ht nR nM nRM hR hM RR RM red few many => ?_⟩
  have A10 := A9.sb sb10 F10
  obtain ⟨zs9, hf9⟩ := F9.lst
  have Rf : R ≠ f := (ne_of_none hf9 nR).symm
  refine ⟨t, [.ref R, .ref Mk], rfl, .inl (.inl ht), rfl, _, _, rfl, _, _, rfl, rfl, ?_⟩
  have lr : rs.length = rws.length := by rw [RR.len, List.length_map]
  have stp : ∀ (i : Nat) (r : Rw), rws[i]? = some r → r.ok ∧ r.row.tail.all plnV = true := fun i r e => by
    obtain ⟨f', _, h⟩ := red.st i r e
    exact ⟨h.ok, step_pln ok h⟩
  refine ⟨4, rfl, by decide, by decide, for_range (lo := 0) (n := 4) (fun i σ H' => ∃ y8 y9 y10 y11 y12 y13 : Option V, σ = [some (.ref a), some (.ref f), some (.int (1 + v1)), some (.int v2), some (.int v3), some (.ref d), some (.ref p), some (.ref R), y8, y9, y10, y11, y12, y13] ∧ All K f c d p Pt m H' ∧ H' R = some (.lst rs) ∧ Rows H' rs (rws.map Rw.row)) ⟨_, _, _, _, _, _, rfl, A10, hR, RR⟩ ?_ ?_⟩
  · rintro i σ HB _ ⟨y8, y9, y10, y11, y12, y13, rfl, AB, hRB, RRB⟩
    refine ⟨_, rfl, R, rs, rfl, .inl (.inl (.inl hRB)), fun G nG => ?_⟩
    have sG := same_upd (o := .lst rs) nG
    have hG : upd HB G (.lst rs) G = some (.lst rs) := upd_same
    have gr0 : ∀ q' ∈ rws.map Rw.row, GR q' := fun q' hq => by
      obtain ⟨r, hr', rfl⟩ := List.mem_map.mp hq
      obtain ⟨j, hj⟩ := List.mem_iff_getElem?.mp hr'
      exact row_gr (stp j r hj).1 (stp j r hj).2
    refine ⟨_, rfl, f, c, 3, rfl, AB.fl.same sG, by decide, by decide, fun v7 H14 a7 b7 sb14 F14 => ⟨1, v7, rfl, rfl, 1 + v7, rfl, by omega, by omega, ?_⟩⟩
    obtain ⟨zsB, hfB⟩ := AB.fl.lst
    have fG : f ≠ G := ne_of_none hfB nG
    obtain ⟨wsB, hcB⟩ := AB.fl.cells
    have cG : c ≠ G := ne_of_none hcB nG
    have sbG : Sb f HB H14 := (Sb.of sG).trans sb14
    obtain ⟨zsG, hfG⟩ := (AB.fl.same sG).lst
    refine for_range (lo := 0) (n := (1 + v7).toNat) (fun j σ H' => ∃ (gs : List V) (qs : List (List V)) (y11 y12 : Option V), σ = [some (.ref a), some (.ref f), some (.int (1 + v1)), some (.int v2), some (.int v3), some (.ref d), some (.ref p), some (.ref R), y8, some (.int (0 + (i : Nat))), some (.ref G), y11, y12, y13] ∧ Sb f HB H' ∧ Flow H' f c ∧ H' G = some (.lst gs) ∧ Rows H' gs qs ∧ qs.length = rws.length ∧ ∀ q' ∈ qs, GR q') ⟨rs, rws.map Rw.row, _, _, rfl, sbG, F14, sb14 _ _ hG fG.symm, (RRB.keep (Kt.of sG)).keep (sb14.kt hfG), by rw [List.length_map], gr0⟩ ?_ ?_
    · rintro j σ H15 _ ⟨gs, qs, y11, y12, rfl, sb15, F15, hG15, RG, lq, grq⟩
      have lg : gs.length = rws.length := by rw [RG.len, lq]
      refine ⟨_, rfl, _, rfl, G, gs, rfl, .inl (.inl (.inl hG15)), f, c, _, rfl, F15, by omega, by omega, fun v8 H16 a8 b8 sb16 F16 => ?_⟩
      have sbA := sb15.trans sb16
      obtain ⟨k8, rfl⟩ : ∃ k8 : Nat, v8 = (k8 : Int) := ⟨v8.toNat, by omega⟩
      obtain ⟨r8, e8⟩ : ∃ r, rws[k8]? = some r := ⟨_, List.getElem?_eq_getElem (by omega)⟩
      obtain ⟨x8, ex8⟩ : ∃ x, rs[k8]? = some x := ⟨_, List.getElem?_eq_getElem (by omega)⟩
      obtain ⟨t8, rfl, ht8⟩ := rows_at RRB ex8 e8
      have tf8 : t8 ≠ f := ne_of ht8 hfB (by intro z; cases z)
      refine ⟨_, rfl, _, rfl, _, rfl, R, rs, _, .ref t8, rfl, rfl, .inl (.inl (sbA _ _ hRB Rf)), atI_nat (j := k8) ex8, f, c, t8, r8, rfl, F16, sbA _ _ ht8 tf8, (stp k8 r8 e8).1, (stp k8 r8 e8).2, fun u q' H17 sb17 F17 hu17 g17 => ?_⟩
      have hG17 := (sb16.trans sb17) _ _ hG15 fG.symm
      obtain ⟨zs15, hf15⟩ := F15.lst
      refine ⟨_, rfl, _, rfl, G, gs, _, k8, rfl, rfl, hG17, ixN_at (by omega), ?_⟩
      have kG : Kt H17 (upd H17 G (.lst (gs.set k8 (.ref u)))) := Kt.upd fun xs e => by rw [hG17] at e; cases e
      refine ⟨gs.set k8 (.ref u), qs.set k8 q', _, _, rfl, sb_put (sbA.trans sb17) nG, F17.upd fG cG, upd_same, ?_, by rw [List.length_set]; exact lq, fun q2 hq2 => ?_⟩
      · exact (Rows.put hu17 (RG.keep ((sb16.trans sb17).kt hf15))).keep kG
      · rcases List.mem_or_eq_of_mem_set hq2 with h | h
        · exact grq q2 h
        · rw [h]
          exact g17
    rintro σ H15 ⟨gs, qs, y11, y12, rfl, sb15, F15, hG15, RG, lq, grq⟩
    have A15 := AB.sb sb15 F15
    have hR15 := sb15 _ _ hRB Rf
    have RR15 := RRB.keep (sb15.kt hfB)
    refine ⟨_, rfl, _, rfl, d, G, m, qs, gs, rfl, A15.md, FG, hG15, RG, by omega, grq, fun fs' e t2 M2 ms2 H16 s16 ht2 hM2 RM2 lfs => ?_, fun i2 e t2 H16 s16 ht2 => ?_⟩
    · refine ⟨t2, [.ref M2, .non], rfl, .inl (.inl ht2), rfl, _, _, rfl, _, _, rfl, rfl, ?_⟩
      have A16 := A15.same s16
      refine ⟨A16.tab, fun H17 e17 t17 => ?_⟩
      have A17 := A16.ext e17 t17
      have hG17 := e17 _ _ (s16 _ _ hG15) (fun ps z => by cases z)
      have RG17 := (RG.keep (Kt.of s16)).keep (kt_ext e17)
      have hM17 := e17 _ _ hM2 (fun ps z => by cases z)
      have RM17 := RM2.keep (kt_ext e17)
      have hR17 := e17 _ _ (s16 _ _ hR15) (fun ps z => by cases z)
      have RR17 := (RR15.keep (Kt.of s16)).keep (kt_ext e17)
      refine ⟨_, rfl, _, rfl, p, G, m, qs, gs, rfl, A17.web, hpt, FX.okr, b_fm, hG17, RG17, by omega, grq, fun fs2 e2 D H18 s18 nD RD => ?_, fun i2 e2 => by rw [e] at e2; cases e2⟩
      refine ⟨.non, rfl, ?_⟩
      refine ⟨_, rfl, _, rfl, rfl, _, rfl, iteT ⟨.non, .non, rfl, Sm.flat rfl, fun H19 s19 => ⟨_, rfl, iteF ?_⟩⟩⟩
      have s19' := s18.trans s19
      have A19 := A17.same s19'
      refine ⟨_, rfl, rfl, _, rfl, iteT ⟨_, rfl, _, rfl, p, G, m, qs, gs, rfl, A19.web, hpt, FX.okr, b_fm, s19' _ _ hG17, RG17.keep (Kt.of s19'), by omega, grq, fun fs3 e3 D3 H20 s20 nD3 ⟨ds, hD3, RD3⟩ => ?_, fun i2 e2 => by rw [e] at e2; cases e2⟩⟩
      rw [e] at e3
      cases e3
      have s20' := s19'.trans s20
      refine ⟨_, rfl, _, _, rfl, sm_rows hD3 (s20' _ _ hM17) RD3 (RM17.keep (Kt.of s20')) (by rw [List.length_map]; omega) (fun r hr => ?_), fun H21 s21 => ⟨_, rfl, iteF ?_⟩⟩
      · obtain ⟨g, _, rfl⟩ := List.mem_map.mp hr
        exact ⟨rfl, by show 4 ≤ 1000; decide⟩
      have s21' := s20'.trans s21
      exact ⟨_, rfl, rfl, _, rfl, iteF (iteF ⟨_, _, _, _, _, _, rfl, A17.same s21', s21' _ _ hR17, RR17.keep (Kt.of s21')⟩)⟩
    · refine ⟨t2, [.non, .int (i2 : Nat)], rfl, .inl (.inl ht2), rfl, _, _, rfl, _, _, rfl, rfl, ?_⟩
      have A16 := A15.same s16
      refine ⟨A16.tab, fun H17 e17 t17 => ?_⟩
      have A17 := A16.ext e17 t17
      have hG17 := e17 _ _ (s16 _ _ hG15) (fun ps z => by cases z)
      have RG17 := (RG.keep (Kt.of s16)).keep (kt_ext e17)
      have hR17 := e17 _ _ (s16 _ _ hR15) (fun ps z => by cases z)
      have RR17 := (RR15.keep (Kt.of s16)).keep (kt_ext e17)
      refine ⟨_, rfl, _, rfl, p, G, m, qs, gs, rfl, A17.web, hpt, FX.okr, b_fm, hG17, RG17, by omega, grq, fun fs2 e2 => (by rw [e] at e2; cases e2), fun i3 e3 ed H18 s18 n18 he => ?_⟩
      rw [e] at e3
      cases e3
      refine ⟨_, ed, _, _, _, .cBadPaper _, rfl, rfl, he, fun t3 nt3 => ?_⟩
      have s3 := s18.trans (same_upd (o := .tup [.str "BadPaper", .int (i2 : Nat)]) nt3)
      refine ⟨_, rfl, _, rfl, rfl, _, rfl, ?_⟩
      rw [decide_eq_false (show ¬ V.int (i2 : Nat) = V.non from fun z => by cases z)]
      refine iteF ⟨_, rfl, (by show 2 ≤ sizeLine; decide), fun t4 nt4 => ?_⟩
      have st4 := same_upd (o := .tup [.str "BadPaper", .int (i2 : Nat)]) nt4
      refine ⟨_, _, rfl, sm_two (st4 _ _ upd_same) upd_same rfl rfl, fun H19 s19 => ⟨_, rfl, iteF ?_⟩⟩
      have s19' := (s3.trans st4).trans s19
      refine ⟨_, rfl, rfl, _, rfl, ?_⟩
      rw [decide_eq_false (show ¬ V.int (i2 : Nat) = V.non from fun z => by cases z)]
      refine iteF (iteF ⟨_, rfl, rfl, _, rfl, ?_⟩)
      rw [decide_eq_false (show ¬ V.int (i2 : Nat) = V.non from fun z => by cases z)]
      refine iteT ⟨_, rfl, _, rfl, (by show 1 ≤ sizeLine; decide), fun l nl => ⟨(by show 2 ≤ sizeLine; decide), fun t5 nt5 => ?_⟩⟩
      have s20 := (s19'.trans (same_upd (o := .lst [.int 0]) nl)).trans (same_upd (o := .tup [.ref G, .ref l]) nt5)
      refine ⟨p, G, l, t5, m, qs, gs, i2, rfl, upd_same, A17.web.same s20, hpt, FX.okr, b_fm, s20 _ _ hG17, RG17.keep (Kt.of s20), by omega, grq, e, fun H21 s21 => ⟨false, false, rfl, rfl, _, rfl, iteF ?_⟩⟩
      have s21' := s20.trans s21
      exact ⟨_, _, _, _, _, _, rfl, A17.same s21', s21' _ _ hR17, RR17.keep (Kt.of s21')⟩
  · rintro σ H12 ⟨y8, y9, y10, y11, y12, y13, rfl, A12, _, _⟩
    exact ⟨_, rfl, _, rfl, p, d, m, rfl, A12.web, A12.md, fun H13 s13 => q H13⟩
end
end Tw

set_option maxHeartbeats 0
namespace Tw
open PySem PySem.Spec PyProof.Rows L2
theorem facts {l : PySem.W.OpenLaw} {w : World} {K : PySem.W.Frag} {h : Heap} {mg : Str → Option Value} {f : Addr} (X : K.In h) (G : h.Ns mainGlobals mg) (hfa : mg ("law" : Str) = some (.ref f)) (c : SaysW fa fn tf ex tb w h K) : LamX.LawAtS l w K CX0 12 63 "_law_script" mg f h := by
  have T : Tp K mg := tp_mk X G c.y.d c.y.more
  have e := hfa.symm.trans (g_law T)
  cases e
  obtain ⟨fd, F⟩ := f_law T
  have b := FunD.bindsA (ps := ["_law_script"]) F fun _ _ _ _ _ _ us hl => match us, hl with
    | [_], _ => rfl
  have m : (("law" : Str), (none : Option Str)) ∈ tf := List.mem_cons_self
  have one : ∀ {R : Addr × Addr → Prop}, R (He.cT K ("law", none)) → ∀ p ∈ [He.cT K ("law", none)], R p := fun hR p hp => by
    rw [List.mem_singleton.mp hp]
    exact hR
  exact ⟨fd, [He.cT K ("law", none)], sp_law K, one (c.y.empty _ m), one (c.y.out _ m), one (PySem.W.codeHd_of_K X (c.y.code _ m)), fun s v => b s [v] rfl, fun H a ns _ _ hH hS => ⟨a, ns, rfl, hS, hH _ List.mem_cons_self, fun _ => rfl⟩,
    fun base _ _ hT => ok_law T c.tab (hT _ List.mem_cons_self) F⟩
end Tw
open PySem PySem.W PySem.Calls PyProof.Rows
theorem PySem.Challenge.cw_tidewaiter_k15_made_rows_refused_holds : PySem.Challenge.rw_tidewaiter_k15_made_rows_refused.Holds := by
  w_on; o_law
  refine HandSHeadRun.head_any (r := Tw.R) (q := view Tw.R.prog [Tw.lawAt]) (H := Tw.hk) (ob := Tw.ob) (M := 30000) (loose := Tw.loose) (d := HandSHeadRun.topDef Tw.R.prog Tw.lawAt) (kwd := []) Tw.ob_eq
    (by kernel_rfl) (fun s => by kernel_rfl) Tw.run (by kernel_rfl) (by kernel_rfl) (by kernel_rfl) (by rfl) (by first | assumption | decide +kernel) (by decide +kernel) ⟨rfl, rfl, rfl, rfl, rfl, by decide +kernel⟩ ?hw ?hc
  case hw => w_witness2
  case hc =>
    refine LamX.walk_ofTsE (l := PySem.Challenge.rw_tidewaiter_k15_made_rows_refused) (n := 63) (k := 12) (x := "_law_script") (CX := fun _ => L2.CX0) rfl (by decide) (by kernel_rfl) ⟨rfl, by decide, by decide⟩ ?F (fun _ _ _ _ _ z => z)
    intro w mg fa h Y G hmg0
    obtain ⟨K, KX, c⟩ := Y
    have hmg : mg ("law" : PySem.Str) = some (.ref fa) := by
      have e : (HandSHeadRun.topDef Tw.R.prog Tw.lawAt).name = ("law" : PySem.Str) := by kernel_rfl
      rw [← e]
      exact hmg0
    exact ⟨K, KX, Tw.facts KX G hmg c⟩

