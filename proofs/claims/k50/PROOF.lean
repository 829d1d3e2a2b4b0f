import PyProof.Rows.All
import Wide.All
import OpenK.AllK
import Wide.FinOn
import KE.KStateDown
import HandS.ForMost
import HandS.IsInst
import HandS.FStr
import HandS.Star
import HandS.Style
import HandS.Codes
import HandS.Walk
import HandS.Defaults
import HandS.MakeKw
import HandS.SlotsOwn
import HandS.HeadEnd
import HandS.HeadHook1
import HandS.HeadHook2
import HandS.Head0
import HandS.Head1
import HandS.Head2
import HandS.SortKw
import KE.DataMinMax
import HandS.TupAny
import HandS.Rev
import PySem.Challenge.RW_tidewaiter_k50_readings_told
set_option Elab.async false
set_option linter.all false
set_option maxRecDepth 100000
set_option maxHeartbeats 4000000
/-! rules of our own over the layer: a def's promise out of its place in the top (the promises themselves are C8's), methods called with keywords, len and repr of an own instance -/
namespace Tw
open PySem PySem.Spec PyProof.Rows L2
section
variable (P : Program) (w : World) (K : PySem.W.Frag) (mg : Str → Option Value) (base : Heap)
/-- the library's promises of a def and of a method, where every parameter is handed in -/
abbrev Cal (k : Nat) (x : Str) (sp : Sp) : Prop := C8.Cal P w K mg base k x sp []
abbrev Met (k : Nat) (C : Addr) (m : Str) (sp : Sp) : Prop := C8.Met P w K mg base k C m sp []
abbrev Mak (k : Nat) (x : Str) (C : Addr) (sp : Sp) (dvs : List V) : Prop := C8.Mak P w K mg base k x C sp dvs
/-- what is owed for a body: it can be read, and under the promise's premise its reading does what the promise tells -/
abbrev BodyOk (k : Nat) (N : List Str) (qual : Str) (body : List Stmt) (scope : Scope) (f : Addr) (sp : Sp) : Prop :=
  ∀ (cdv : Value) (A : Around) (outer : List Env) (s : Shared) (H : Hp) (vs : List V) (Q : VK) (E : XK), Room k (A.deeper (envOfC qual scope s.heap.objs.size f cdv)) → sp vs H Q E →
      ∃ t, PSs (cxOf CX0 P w K mg base N qual scope f cdv A outer s H E).nox body t ∧ t { nx := fun _ H' => Q .non H', rt := Q } (start N vs) H
/-- a method of C for n positional values (self among them) and the keywords ks; gV puts them into the parameters' order -/
structure MetG (CX : CXT) (k : Nat) (C : Addr) (m : Str) (sp : Sp) (n : Nat) (ks : List Str) (gV : List V → List V → List V) : Prop where
  ex : ∃ (f : Addr) (fd : FuncData) (ps : List Str) (g : List Value → List Value → List Value), Cls K C ∧ Meth K C m f ∧ FnOk P w K mg base CX k f fd ps sp ∧ KBn K fd ps n ks g gV
abbrev MetN (k : Nat) (C : Addr) (m : Str) (sp : Sp) (n : Nat) (ks : List Str) : Prop := MetG P w K mg base CX0 k C m sp n ks (fun us ws => us ++ ws)
end
section
variable {P : Program} {w : World} {K : PySem.W.Frag} {mg : Str → Option Value} {base : Heap} {x qual : Str} {C f : Addr} {params : Arguments} {body : List Stmt} {scope : Scope} {dvs : List V} {kws : List (Str × V)} {fd : FuncData} {N ps ks : List Str} {k n : Nat} {sp : Sp}
theorem fnok_of (F : FunD K x qual params body scope dvs kws f fd) (S : FnScope N ps scope) (len : ∀ vs H Q E, sp vs H Q E → vs.length = ps.length) (owed : BodyOk P w K mg base k N qual body scope f sp) : FnOk P w K mg base CX0 (k + 1) f fd ps sp :=
  F.ok S len fun cdv A outer s H vs Q E room h => (owed cdv A outer s H vs Q E room h).imp fun _ p => ⟨p.1.nox, p.2⟩
theorem cal_of (F : FunD K x x params body scope [] [] f fd) (hm : mg x = some (.ref f)) (b : Binds K fd ps []) (S : FnScope N ps scope) (len : ∀ vs H Q E, sp vs H Q E → vs.length = ps.length) (owed : BodyOk P w K mg base k N x body scope f sp) : Cal P w K mg base (k + 1) x sp :=
  ⟨f, fd, ps, [], fnok_of F S len owed, hm, F.kp, b, .nil⟩
theorem met_of (F : FunD K x qual params body scope dvs kws f fd) (c : Cls K C) (me : Meth K C x f) (b : Binds K fd ps []) (S : FnScope N ps scope) (len : ∀ vs H Q E, sp vs H Q E → vs.length = ps.length) (owed : BodyOk P w K mg base k N qual body scope f sp) : Met P w K mg base (k + 1) C x sp :=
  ⟨f, fd, ps, [], c, me, fnok_of F S len owed, b, .nil⟩
/-- no defaults: the handed values, put in order by g, are the parameters -/
theorem kbn_by (F : FunD K x qual params body scope [] kws f fd) (g : {α : Type} → List α → List α → List α) (hrel : ∀ {vs zs : List V} {us ws : List Value}, Vals vs us → Vals zs ws → Vals (g vs zs) (g us ws))
    (h : ∀ (kV doc pm : Value) (an : Option Addr) (cdv ct : Value) (us ws : List Value), us.length = n → ws.length = ks.length → bindArgs (PySem.W.fnOf x qual params body scope .none kV doc pm an cdv ct) ⟨us, ks.zip ws⟩ = pure (ps.zip (g us ws))) :
    KBn K fd ps n ks (fun us ws => g us ws) (fun us ws => g us ws) := by
  obtain ⟨_, _, _, kV, doc, pm, an, cdv, ct, _, rfl, _, _, none_ | ⟨some_, _⟩, _⟩ := F.ex
  · cases none_.2
    exact ⟨fun _ us ws _ l1 l2 => .of_eq (h kV doc pm an cdv ct us ws l1 l2), hrel⟩
  · cases some_ rfl
theorem kbn_of (F : FunD K x qual params body scope [] kws f fd)
    (h : ∀ (kV doc pm : Value) (an : Option Addr) (cdv ct : Value) (us ws : List Value), us.length = n → ws.length = ks.length → bindArgs (PySem.W.fnOf x qual params body scope .none kV doc pm an cdv ct) ⟨us, ks.zip ws⟩ = pure (ps.zip (us ++ ws))) :
    KBn K fd ps n ks (fun us ws => us ++ ws) (fun us ws => us ++ ws) := kbn_by F (fun us ws => us ++ ws) (fun r1 r2 => r1.append r2) h
end
section
variable {X : Cx} {CX : CXT} {k j n : Nat} {C : Addr} {x m : Str} {sp : Sp} {dvs : List V} {p pos apos : Pos} {e o : Expr} {es : List Expr} {ta : TE} {t tk : TA} {ks : List Str} {kws : List Keyword} {gV : List V → List V → List V} {E : XK} {pl : Sem Bool}
/-- C() with all its parameters left out -/
theorem pe_mk0 (c : Mak X.prog X.w X.K X.mg X.base k x C sp dvs) (hr : Room j X.A) (hk : k + 1 ≤ j) (hg : Gl X x) (hdb : (x == ("__debug__" : Str)) = false := by decide) : PE X (.Call (.Name x p) [] [] pos) (tMake C sp dvs E0 tNil) :=
  let ⟨_, _, _, _, made, F, at_, b, d⟩ := c.ex
  pe_make0 made F (hr.mono hk) hg at_ b d pass0 hdb
/-- the text o.m(e, .., k = v, ..) has no star, names its keywords ks, and goes these steps -/
structure KwForm (X : Cx) (pl : Sem Bool) (o e : Expr) (es : List Expr) (kws : List Keyword) (m : Str) (apos pos : Pos) (ks : List Str) : Prop where
  named : (backToKw pos (keywordEach kws X.env)).all (·.1.isSome) = true
  names : (backToKw pos (keywordEach kws X.env)).filterMap (·.1) = ks
  first : starEach (e :: es) X.env = (false, eval e X.env) :: starEach es X.env
  plain : ((backTo pos (starEach (e :: es) X.env)).any (·.1) || (backToKw pos (keywordEach kws X.env)).any (·.1.isNone)) = false
  steps : eval (.Call (.Attribute o m apos) (e :: es) kws pos) X.env =
    (eval o X.env >>= fun ov => standAt apos.atName >>= fun _ => holding [ov] (getMethod ov m pl) >>= fun g => callWith pos g.1 g.2 (backTo pos (starEach (e :: es) X.env)) (backToKw pos (keywordEach kws X.env)))
def tMethG (C : Addr) (m : Str) (n nk : Nat) (sp : Sp) (gV : List V → List V → List V) (E : XK) (ta : TE) (t tk : TA) : TE := fun σ H Q => ta σ H fun x H1 => ∃ a dx fs, x = .ref a ∧ H1 a = some (.ins C dx fs) ∧ fs.lookup m = none ∧
  t σ H1 fun vs H2 => tk σ H2 fun zs H3 => vs.length + 1 = n ∧ zs.length = nk ∧ sp (gV (x :: vs) zs) H3 Q E
theorem pe_mg (c : MetG X.prog X.w X.K X.mg X.base CX k C m sp n ks gV) (hx : Passes CX X E) (hr : Room j X.A) (hk : k ≤ j) (he : PE X o ta) (ha : PA X (e :: es) t) (hkw : PK X kws tk) (form : KwForm X pl o e es kws m apos pos ks) :
    PE X (.Call (.Attribute o m apos) (e :: es) kws pos) (tMethG C m n ks.length sp gV E ta t tk) := by
  obtain ⟨f, fd, ps, g, cls, me, F, kb⟩ := c.ex
  obtain ⟨named, rfl, first, plain, steps⟩ := form
  constructor
  intro pins s σ H Q I h
  refine PySem.W.methodCall_KW (pl := pl) (thn (he.run pins s σ H _ I h) ?_) steps
  rintro _ s1 ⟨_, H1, I1, obj, a, dx, fs, rfl, here, own, q⟩
  cases (show _ = Value.ref a from obj)
  refine getmeth_ok I1 here cls me own (PySem.W.callWith_KW (first := [.ref a]) (h₀ := X.base) I.ok.mod.kin me.kp named (thn (ha.run pos pins s1 σ H1 _ I1 q) ?_) plain first)
  rintro us s2 ⟨vs, H2, I2, rv, q2⟩
  refine thn (hkw.run pos pins s2 σ H2 _ I2 q2) ?_
  rintro ws s3 ⟨zs, H3, I3, rz, ln, lk, q3⟩
  exact ⟨I3.kIn, run_fnN (us := .ref a :: us) (vs := .ref a :: vs) F (hr.mono hk) kb hx I3 (.cons rfl rv) rz ln lk q3⟩
/-- .. where the method raises nothing -/
theorem pe_mg0 (c : MetG X.prog X.w X.K X.mg X.base CX0 k C m sp n ks gV) (hr : Room j X.A) (hk : k ≤ j) (he : PE X o ta) (ha : PA X (e :: es) t) (hkw : PK X kws tk) (form : KwForm X pl o e es kws m apos pos ks := by exact ⟨rfl, rfl, rfl, rfl, rfl⟩) :
    PE X (.Call (.Attribute o m apos) (e :: es) kws pos) (tMethG C m n ks.length sp gV E0 ta t tk) := pe_mg c pass0 hr hk he ha hkw form
/-- an own method without values, as a builtin finds and runs it -/
theorem own0 (c : Met X.prog X.w X.K X.mg X.base k C m sp) : ∃ f, PySem.W.findIn X.K (.ref C) m = some (some (.ref f)) ∧ PySem.W.isFn X.K (.ref f) = true ∧ FnR X.prog X.w X.K X.mg X.base CX0 k f sp := by
  obtain ⟨f, _, _, _, _, me, F, b, d⟩ := c.ex
  exact ⟨f, me.at_, me.fn, (F.raw b d).imp fun vs _ _ _ h => (List.append_nil vs).symm ▸ h⟩
/-- len(o) by an own __len__ -/
def rLenO (C : Addr) (sp : Sp) : List V → Hp → VK → Prop := fun xs H Q => ∃ a dx fs, xs = [.ref a] ∧ H a = some (.ins C dx fs) ∧ sp [.ref a] H (fun v H' => ∃ i : Int, v = .int i ∧ 0 ≤ i ∧ i < 2 ^ 63 ∧ Q (.int i) H') E0
theorem call_lenO (c : Met X.prog X.w X.K X.mg X.base k C "__len__" sp) (hr : Room j X.A) (hk : k + 1 ≤ j) : CallR X (.builtin "len") (rLenO C sp) := by
  rintro pins s σ H _ us Q I r ⟨a, dx, fs, rfl, here, q⟩
  obtain rfl := Vals.ref1 r
  obtain ⟨f, hs, hf, F⟩ := own0 c
  obtain ⟨_, J0, _⟩ := ins_get I.hok here
  obtain ⟨_, J, _⟩ := J0.look
  obtain ⟨_, hF⟩ := I.fr
  refine PySem.W.len_K hF I.ok.mod.kin J hs hf (thn (wpAny_call (SlX.run_at F (hr.mono hk).in1 I.env0.in1 pass0 I r q)) ?_)
  rintro _ s1 ⟨_, H1, I1, rv, i, rfl, low, high, q1⟩
  obtain ⟨_, rfl⟩ := rv
  exact ⟨⟨low, high⟩, .int i, H1, I1.tok _, ⟨_, rfl⟩, q1⟩
/-- repr(o) by an own __repr__ -/
def rReprO (C : Addr) (sp : Sp) : List V → Hp → VK → Prop := fun xs H Q => ∃ a dx fs, xs = [.ref a] ∧ H a = some (.ins C dx fs) ∧ sp [.ref a] H (fun v H' => ∃ z : Str, v = .str z ∧ Q (.str z) H') E0
theorem call_reprO (c : Met X.prog X.w X.K X.mg X.base k C "__repr__" sp) (hr : Room j X.A) (hk : k + 1 ≤ j) : CallR X (.builtin "repr") (rReprO C sp) := by
  rintro pins s σ H _ us Q I r ⟨a, dx, fs, rfl, here, q⟩
  obtain rfl := Vals.ref1 r
  obtain ⟨f, hs, hf, F⟩ := own0 c
  obtain ⟨_, J0, _⟩ := ins_get I.hok here
  obtain ⟨_, J, _⟩ := J0.look
  obtain ⟨_, hF⟩ := I.fr
  have room : Room k X.A.in1 := (hr.mono hk).in1
  refine PySem.W.repr_K room.units0 hF I.ok.mod.kin J hs hf (thn (wpAny_call (SlX.run_at F room I.env0.in1 pass0 I r q)) ?_)
  rintro _ s1 ⟨_, H1, I1, rv, z, rfl, q1⟩
  obtain ⟨_, rfl⟩ := rv
  exact ⟨.str z, H1, I1, ⟨_, rfl⟩, q1⟩
end
end Tw

set_option maxHeartbeats 4000000
/-! what the program's and the law's data are, and what heaps keep -/
namespace Tw
open PySem PySem.Spec PyProof.Rows L2
theorem bb_len : bootBuiltins "len" = some (.builtin "len") := by decide +kernel
theorem bb_all : bootBuiltins "all" = some (.builtin "all") := by decide +kernel
theorem bb_abs : bootBuiltins "abs" = some (.builtin "abs") := by decide +kernel
theorem bb_repr : bootBuiltins "repr" = some (.builtin "repr") := by decide +kernel
theorem bb_isinstance : bootBuiltins "isinstance" = some (.builtin "isinstance") := by decide +kernel
theorem bb_list : bootBuiltins "list" = some (.type "list") := by decide +kernel
theorem bb_tuple : bootBuiltins "tuple" = some (.type "tuple") := by decide +kernel
theorem bb_str : bootBuiltins "str" = some (.type "str") := by decide +kernel
theorem bb_bool : bootBuiltins "bool" = some (.type "bool") := by decide +kernel
theorem bb_int : bootBuiltins "int" = some (.type "int") := by decide +kernel
theorem bb_dict : bootBuiltins "dict" = some (.type "dict") := by decide +kernel
/-! isinstance with a built-in class -/
def kitT : String → String → Bool
  | "bool", "bool" => true
  | "bool", "int" => true
  | "int", "int" => true
  | "str", "str" => true
  | "list", "list" => true
  | "tuple", "tuple" => true
  | "dict", "dict" => true
  | _, _ => false
def kinds : List String := ["NoneType", "bool", "int", "str", "list", "tuple", "dict"]
theorem kitB_all : (kinds.all fun a => (kinds.drop 1).all fun b => decide (kitB a b = some (kitT a b))) = true := by decide +kernel
theorem kitB_of {a b : String} (ha : a ∈ kinds) (hb : b ∈ kinds.drop 1) : kitB a b = some (kitT a b) :=
  of_decide_eq_true (List.all_eq_true.mp (List.all_eq_true.mp kitB_all a ha) b hb)
/-- isinstance(x, T): the reading asks the kind of x -/
def rIsK (K : PySem.W.Frag) : List V → Hp → VK → Prop := fun xs H Q => ∃ (x : V) (n a : String), xs = [x, .ty n] ∧ TyX K H x (.type a) ∧ a ∈ kinds ∧ n ∈ kinds.drop 1 ∧ Q (.bl (kitT a n)) H
theorem call_isK {X : Cx} : CallR X (.builtin "isinstance") (rIsK X.K) := by
  intro pins s σ H xs us Q I r h
  obtain ⟨x, n, a, rfl, ty, ha, hn, q⟩ := h
  exact call_isi pins s σ H _ us Q I r ⟨x, .ty n, .type a, .type n, kitT a n, rfl, .ty n, ty, kit_ty (kitB_of ha hn), q⟩
/-! the same rules inside a comprehension's block, where the written part is the def's -/
section
variable {X : Cx} {K : PySem.W.Frag}
theorem ix_tupK (h : X.K = K) : IxR X (rIxT K) := h ▸ ix_tup
theorem ix_listK (h : X.K = K) : IxR X (rIxL K) := h ▸ ix_list
theorem ix_seqK (h : X.K = K) : IxR X (rIx K) := h ▸ ix_seq
theorem op_in_seqK (h : X.K = K) : OpR X (compareOp .In) (rIn K false) := h ▸ op_in_seq
theorem op_notIn_seqK (h : X.K = K) : OpR X (compareOp .NotIn) (rIn K true) := h ▸ op_notIn_seq
theorem call_len_seqK (h : X.K = K) : CallR X (.builtin "len") (fun xs H Q => ∃ p ys, xs = [.ref p] ∧ (SqL K H p ys ∨ SqT K H p ys) ∧ Q (.int ys.length) H) := h ▸ call_len_seq
theorem call_isKK (h : X.K = K) : CallR X (.builtin "isinstance") (rIsK K) := h ▸ call_isK
theorem pe_fldK {e : Expr} {f : Str} {ta : TE} {pos : Pos} (h : X.K = K) (ha : PE X e ta) (hb : attributeBase e f X.env (eval e X.env) = eval e X.env) : PE X (.Attribute e f pos) (tFld K ta f) := h ▸ pe_fld ha hb
theorem pg_tupK {es : List Expr} {k : Nat} {t : TGs} {n : Nat} {pos : Pos} (h : X.K = K) (hc : X.calm = true) (hg : PGs X es t) (hn : (assignEach es X.env).length = n := by rfl) (hst : (assignEach es X.env).findIdx? (·.1) = none := by rfl) : PG X (.Tuple es k pos) (gTup K n t) := h ▸ pg_tup hc hg hn hst
end
theorem yes_i {σ : L2.St} {H : Hp} {Q : Bool → Hp → Prop} (h : Q true H) : tYes σ H Q := h
/-! ### heaps -/
theorem same_upd {H : Hp} {p : Addr} {o : HO} (h : H p = none) : Same H (upd H p o) := fun b x e => by
  rw [upd_ne (ne_of_none e h)]
  exact e
/-- all but the place f stays -/
def Sb (f : Addr) (H H' : Hp) : Prop := ∀ b o, H b = some o → b ≠ f → H' b = some o
theorem Sb.refl {f : Addr} {H : Hp} : Sb f H H := fun _ _ h _ => h
theorem Sb.of {f : Addr} {H H' : Hp} (s : Same H H') : Sb f H H' := fun b o h _ => s b o h
theorem Sb.trans {f : Addr} {H H1 H2 : Hp} (a : Sb f H H1) (b : Sb f H1 H2) : Sb f H H2 := fun c o h n => b c o (a c o h n) n
theorem Sb.upd {f : Addr} {H : Hp} {o : HO} : Sb f H (upd H f o) := fun b x e n => by
  rw [upd_ne n]
  exact e
/-- tuples stay -/
def Kt (H H' : Hp) : Prop := ∀ b xs, H b = some (.tup xs) → H' b = some (.tup xs)
theorem Kt.of {H H' : Hp} (s : Same H H') : Kt H H' := fun b _ h => s b _ h
theorem Kt.trans {H H1 H2 : Hp} (a : Kt H H1) (b : Kt H1 H2) : Kt H H2 := fun c o h => b c o (a c o h)
theorem Sb.kt {f : Addr} {H H' : Hp} {xs : List V} (s : Sb f H H') (hf : H f = some (.lst xs)) : Kt H H' := fun b _ h => s b _ h (ne_of h hf (by intro z; cases z))
theorem Kt.upd {H : Hp} {p : Addr} {o : HO} (h : ∀ xs, H p = some (.tup xs) → o = .tup xs) : Kt H (upd H p o) := fun b xs e => by
  by_cases hb : b = p
  · subst hb
    rw [upd_same, h xs e]
  · rw [upd_ne hb]
    exact e
/-! ### the data -/
structure Wd where
  en : Str
  bg : Str
  lo : Int
  hi : Int
  la : Option Int
structure Bd where
  one : Str
  oth : Str
  bot : Option Int
  top : Option Int
/-- a web as the law keeps it -/
structure Md where
  last : Int
  own : List Str
  wd : List Wd
  bd : List Bd
def oV : Option Int → V
  | none => .non
  | some i => .int i
def Wd.row (x : Wd) : List V := [.str x.en, .str x.bg, .int x.lo, .int x.hi, oV x.la]
def Bd.row (x : Bd) : List V := [.str x.one, .str x.oth, oV x.bot, oV x.top]
def Md.pts (m : Md) : List Str := "start" :: (m.own ++ m.wd.map (·.en))
/-- tuples stand at these places -/
def Rows (H : Hp) (xs : List V) (rs : List (List V)) : Prop := Paired (fun x r => ∃ t, x = V.ref t ∧ H t = some (.tup r)) xs rs
theorem Rows.keep {H H' : Hp} (k : Kt H H') {xs : List V} {rs : List (List V)} (h : Rows H xs rs) : Rows H' xs rs := Paired.mono (fun _ _ ⟨t, e, ht⟩ => ⟨t, e, k t _ ht⟩) h
theorem Rows.len {H : Hp} {xs : List V} {rs : List (List V)} (h : Rows H xs rs) : xs.length = rs.length := Paired.length h
theorem Rows.snoc {H : Hp} {xs : List V} {rs : List (List V)} {t : Addr} {r : List V} (h : Rows H xs rs) (e : H t = some (.tup r)) : Rows H (xs ++ [.ref t]) (rs ++ [r]) := Paired.snoc h ⟨t, rfl, e⟩
theorem paired_at {α β : Type} {F : α → β → Prop} : ∀ {l : List α} {m : List β} {i : Nat} {a : α}, Paired F l m → l[i]? = some a → ∃ b, m[i]? = some b ∧ F a b
  | _, _, 0, _, .cons h _, e => by
    cases e
    exact ⟨_, rfl, h⟩
  | _, _, i + 1, a, .cons _ t, e => by
    obtain ⟨b, h1, h2⟩ := paired_at (i := i) t e
    exact ⟨b, h1, h2⟩
theorem Rows.at {H : Hp} {xs : List V} {rs : List (List V)} {i : Nat} {x : V} (h : Rows H xs rs) (e : xs[i]? = some x) : ∃ t r, x = .ref t ∧ rs[i]? = some r ∧ H t = some (.tup r) := by
  obtain ⟨r, h1, t, h2, h3⟩ := paired_at h e
  exact ⟨t, r, h2, h1, h3⟩
/-- a Web's attributes -/
def wf (last : Int) (a b c : Addr) : List (Str × V) := [("by", .int last), ("moment_rows", .ref a), ("span_rows", .ref b), ("tie_rows", .ref c)]
theorem wf_by {l : Int} {a b c : Addr} : (wf l a b c).lookup ("by" : Str) = some (.int l) := by
  unfold wf
  rw [List.lookup_cons_self]
theorem wf_m {l : Int} {a b c : Addr} : (wf l a b c).lookup ("moment_rows" : Str) = some (.ref a) := by
  unfold wf
  rw [List.lookup_cons, show (("moment_rows" : Str) == "by") = false by decide +kernel, List.lookup_cons_self]
theorem wf_s {l : Int} {a b c : Addr} : (wf l a b c).lookup ("span_rows" : Str) = some (.ref b) := by
  unfold wf
  rw [List.lookup_cons, show (("span_rows" : Str) == "by") = false by decide +kernel, List.lookup_cons, show (("span_rows" : Str) == "moment_rows") = false by decide +kernel, List.lookup_cons_self]
theorem wf_t {l : Int} {a b c : Addr} : (wf l a b c).lookup ("tie_rows" : Str) = some (.ref c) := by
  unfold wf
  rw [List.lookup_cons, show (("tie_rows" : Str) == "by") = false by decide +kernel, List.lookup_cons, show (("tie_rows" : Str) == "moment_rows") = false by decide +kernel, List.lookup_cons, show (("tie_rows" : Str) == "span_rows") = false by decide +kernel, List.lookup_cons_self]
def webAttrs : List Str := ["by", "moment_rows", "span_rows", "tie_rows"]
theorem wf_no {l : Int} {a b c : Addr} {m : Str} (h : webAttrs.all (fun x => !(m == x)) = true) : (wf l a b c).lookup m = none := by
  unfold webAttrs at h
  simp only [List.all_cons, List.all_nil, Bool.and_true, Bool.and_eq_true, Bool.not_eq_true'] at h
  obtain ⟨h1, h2, h3, h4⟩ := h
  unfold wf
  rw [List.lookup_cons, h1, List.lookup_cons, h2, List.lookup_cons, h3, List.lookup_cons, h4]
  rfl
/-- a web stands at p -/
structure WebAt (C : Addr) (H : Hp) (p : Addr) (m : Md) : Prop where
  ex : ∃ (dx a b c : Addr) (ws bs : List V), H p = some (.ins C dx (wf m.last a b c)) ∧ H a = some (.tup (m.own.map V.str)) ∧ H b = some (.tup ws) ∧ Rows H ws (m.wd.map Wd.row) ∧ H c = some (.tup bs) ∧ Rows H bs (m.bd.map Bd.row)
  len : m.own.length ≤ 10 ∧ m.wd.length ≤ 4 ∧ m.bd.length ≤ 40
  last : 1 ≤ m.last ∧ m.last ≤ 1000
theorem WebAt.keep {C : Addr} {H H' : Hp} {p : Addr} {m : Md} (h : WebAt C H p m) (hp : ∀ dx fs, H p = some (.ins C dx fs) → H' p = some (.ins C dx fs)) (k : Kt H H') : WebAt C H' p m := by
  obtain ⟨dx, a, b, c, ws, bs, h1, h2, h3, h4, h5, h6⟩ := h.ex
  exact ⟨⟨dx, a, b, c, ws, bs, hp _ _ h1, k _ _ h2, k _ _ h3, h4.keep k, k _ _ h5, h6.keep k⟩, h.len, h.last⟩
theorem WebAt.same {C : Addr} {H H' : Hp} {p : Addr} {m : Md} (h : WebAt C H p m) (s : Same H H') : WebAt C H' p m := h.keep (fun _ _ e => s _ _ e) (Kt.of s)
theorem WebAt.sb {C : Addr} {H H' : Hp} {p f : Addr} {m : Md} {xs : List V} (h : WebAt C H p m) (s : Sb f H H') (hf : H f = some (.lst xs)) : WebAt C H' p m :=
  h.keep (fun _ _ e => s _ _ e (ne_of e hf (by intro z; cases z))) (s.kt hf)
/-- what is a name -/
abbrev letters : Str := "abcdefghijklmnopqrstuvwxyz"
def Nm (z : Str) : Prop := 1 ≤ z.length ∧ z.length ≤ 8 ∧ ∀ c ∈ z.cps.toList, c ∈ letters.cps.toList
end Tw

namespace Tw
open PySem PySem.Spec PyProof.Rows L2
theorem same_put {H H1 : Hp} {D : Addr} {o : HO} (s : Same H H1) (nD : H D = none) : Same H (upd H1 D o) := fun b x e => by
  rw [upd_ne (ne_of_none e nD)]
  exact s b x e
end Tw

set_option maxHeartbeats 4000000
namespace Tw
open PySem PySem.Spec PyProof.Rows L2

def top (i : Nat) : Stmt := PySem.Challenge.pw_tidewaiter_k50_readings_told.main.body.getD i (.Pass ⟨0, 0, 0, 0⟩)
abbrev s_is_number : Stmt := top 1
abbrev s_is_whole : Stmt := top 2
abbrev s_are_lengths : Stmt := top 9
abbrev s_is_lateness : Stmt := top 10
abbrev s_need_plan : Stmt := top 17
abbrev s_is_made : Stmt := top 18
abbrev s_inner_plans : Stmt := top 19
abbrev s_part_count : Stmt := top 20
abbrev s_reading_count : Stmt := top 21
abbrev s_readings : Stmt := top 22
abbrev s_reading : Stmt := top 23
abbrev s_taken : Stmt := top 24
abbrev s__law_flow : Stmt := top 26
abbrev s__law_draw : Stmt := top 27
abbrev s__law_same : Stmt := top 28
abbrev s__law_whole : Stmt := top 29
abbrev s__law_leaf : Stmt := top 30
abbrev s__law_plan : Stmt := top 31
abbrev s__law_kids : Stmt := top 32
abbrev s__law_leaf_count : Stmt := top 33
abbrev s__law_plan_depth : Stmt := top 34
abbrev s__law_reading_count : Stmt := top 35
abbrev s__law_good_leaf : Stmt := top 36
abbrev s__law_good_form : Stmt := top 37
abbrev s__law_good_plan : Stmt := top 38
abbrev s__law_ways : Stmt := top 39
abbrev s__law_plan_copy : Stmt := top 40
abbrev s__law_wreck : Stmt := top 41
abbrev s_law : Stmt := top 42
abbrev N_is_number : List Str := ["thing"]
theorem sc_is_number : FnScope N_is_number ["thing"] (defScope s_is_number) := ⟨rfl, rfl, rfl, by decide +kernel, rfl, by decide +kernel, by decide +kernel⟩
abbrev N_is_whole : List Str := ["thing", "least", "most"]
theorem sc_is_whole : FnScope N_is_whole ["thing", "least", "most"] (defScope s_is_whole) := ⟨rfl, rfl, rfl, by decide +kernel, rfl, by decide +kernel, by decide +kernel⟩
abbrev N_are_lengths : List Str := ["low", "high"]
theorem sc_are_lengths : FnScope N_are_lengths ["low", "high"] (defScope s_are_lengths) := ⟨rfl, rfl, rfl, by decide +kernel, rfl, by decide +kernel, by decide +kernel⟩
abbrev N_is_lateness : List Str := ["late"]
theorem sc_is_lateness : FnScope N_is_lateness ["late"] (defScope s_is_lateness) := ⟨rfl, rfl, rfl, by decide +kernel, rfl, by decide +kernel, by decide +kernel⟩
abbrev N_need_plan : List Str := ["plan"]
theorem sc_need_plan : FnScope N_need_plan ["plan"] (defScope s_need_plan) := ⟨rfl, rfl, rfl, by decide +kernel, rfl, by decide +kernel, by decide +kernel⟩
abbrev N_is_made : List Str := ["plan", "depth", "word", "part"]
theorem sc_is_made : FnScope N_is_made ["plan", "depth"] (defScope s_is_made) := ⟨rfl, rfl, rfl, by decide +kernel, rfl, by decide +kernel, by decide +kernel⟩
abbrev N_inner_plans : List Str := ["plan"]
theorem sc_inner_plans : FnScope N_inner_plans ["plan"] (defScope s_inner_plans) := ⟨rfl, rfl, rfl, by decide +kernel, rfl, by decide +kernel, by decide +kernel⟩
abbrev N_part_count : List Str := ["plan", "part"]
theorem sc_part_count : FnScope N_part_count ["plan"] (defScope s_part_count) := ⟨rfl, rfl, rfl, by decide +kernel, rfl, by decide +kernel, by decide +kernel⟩
abbrev N_reading_count : List Str := ["plan", "counts", "product", "count", "part"]
theorem sc_reading_count : FnScope N_reading_count ["plan"] (defScope s_reading_count) := ⟨rfl, rfl, rfl, by decide +kernel, rfl, by decide +kernel, by decide +kernel⟩
abbrev N_readings : List Str := ["plan", "at"]
theorem sc_readings : FnScope N_readings ["plan"] (defScope s_readings) := ⟨rfl, rfl, rfl, by decide +kernel, rfl, by decide +kernel, by decide +kernel⟩
abbrev N_reading : List Str := ["plan", "at", "word", "parts", "part", "own"]
theorem sc_reading : FnScope N_reading ["plan", "at"] (defScope s_reading) := ⟨rfl, rfl, rfl, by decide +kernel, rfl, by decide +kernel, by decide +kernel⟩
abbrev N_taken : List Str := ["plans", "at", "part", "count"]
theorem sc_taken : FnScope N_taken ["plans", "at"] (defScope s_taken) := ⟨rfl, rfl, rfl, by decide +kernel, rfl, by decide +kernel, by decide +kernel⟩
abbrev N__law_flow : List Str := ["_law_script"]
theorem sc__law_flow : FnScope N__law_flow ["_law_script"] (defScope s__law_flow) := ⟨rfl, rfl, rfl, by decide +kernel, rfl, by decide +kernel, by decide +kernel⟩
abbrev N__law_draw : List Str := ["_law_flow_here", "_law_size", "_law_found", "_law_cell", "_law_here"]
theorem sc__law_draw : FnScope N__law_draw ["_law_flow_here", "_law_size"] (defScope s__law_draw) := ⟨rfl, rfl, rfl, by decide +kernel, rfl, by decide +kernel, by decide +kernel⟩
abbrev N__law_same : List Str := ["_law_found", "_law_due", "_law_key", "_law_k"]
theorem sc__law_same : FnScope N__law_same ["_law_found", "_law_due"] (defScope s__law_same) := ⟨rfl, rfl, rfl, by decide +kernel, rfl, by decide +kernel, by decide +kernel⟩
abbrev N__law_whole : List Str := ["_law_thing", "_law_low", "_law_high"]
theorem sc__law_whole : FnScope N__law_whole ["_law_thing", "_law_low", "_law_high"] (defScope s__law_whole) := ⟨rfl, rfl, rfl, by decide +kernel, rfl, by decide +kernel, by decide +kernel⟩
abbrev N__law_leaf : List Str := ["_law_flow_here", "_law_far", "_law_low", "_law_hush"]
theorem sc__law_leaf : FnScope N__law_leaf ["_law_flow_here", "_law_far"] (defScope s__law_leaf) := ⟨rfl, rfl, rfl, by decide +kernel, rfl, by decide +kernel, by decide +kernel⟩
abbrev N__law_plan : List Str := ["_law_flow_here", "_law_bottom", "_law_words", "_law_far", "_law_kind", "_law_word", "_law_many", "_law_k"]
theorem sc__law_plan : FnScope N__law_plan ["_law_flow_here", "_law_bottom", "_law_words", "_law_far"] (defScope s__law_plan) := ⟨rfl, rfl, rfl, by decide +kernel, rfl, by decide +kernel, by decide +kernel⟩
abbrev N__law_kids : List Str := ["_law_plan_here"]
theorem sc__law_kids : FnScope N__law_kids ["_law_plan_here"] (defScope s__law_kids) := ⟨rfl, rfl, rfl, by decide +kernel, rfl, by decide +kernel, by decide +kernel⟩
abbrev N__law_leaf_count : List Str := ["_law_plan_here", "_law_kids_here", "_law_one"]
theorem sc__law_leaf_count : FnScope N__law_leaf_count ["_law_plan_here"] (defScope s__law_leaf_count) := ⟨rfl, rfl, rfl, by decide +kernel, rfl, by decide +kernel, by decide +kernel⟩
abbrev N__law_plan_depth : List Str := ["_law_plan_here", "_law_one"]
theorem sc__law_plan_depth : FnScope N__law_plan_depth ["_law_plan_here"] (defScope s__law_plan_depth) := ⟨rfl, rfl, rfl, by decide +kernel, rfl, by decide +kernel, by decide +kernel⟩
abbrev N__law_reading_count : List Str := ["_law_plan_here", "_law_found", "_law_one"]
theorem sc__law_reading_count : FnScope N__law_reading_count ["_law_plan_here"] (defScope s__law_reading_count) := ⟨rfl, rfl, rfl, by decide +kernel, rfl, by decide +kernel, by decide +kernel⟩
abbrev N__law_good_leaf : List Str := ["_law_plan_here", "_law_good"]
theorem sc__law_good_leaf : FnScope N__law_good_leaf ["_law_plan_here"] (defScope s__law_good_leaf) := ⟨rfl, rfl, rfl, by decide +kernel, rfl, by decide +kernel, by decide +kernel⟩
abbrev N__law_good_form : List Str := ["_law_plan_here", "_law_sizes", "_law_one"]
theorem sc__law_good_form : FnScope N__law_good_form ["_law_plan_here"] (defScope s__law_good_form) := ⟨rfl, rfl, rfl, by decide +kernel, rfl, by decide +kernel, by decide +kernel⟩
abbrev N__law_good_plan : List Str := ["_law_plan_here"]
theorem sc__law_good_plan : FnScope N__law_good_plan ["_law_plan_here"] (defScope s__law_good_plan) := ⟨rfl, rfl, rfl, by decide +kernel, rfl, by decide +kernel, by decide +kernel⟩
abbrev N__law_ways : List Str := ["_law_plan_here", "_law_found", "_law_one", "_law_rows", "_law_kid", "_law_wider", "_law_row"]
theorem sc__law_ways : FnScope N__law_ways ["_law_plan_here"] (defScope s__law_ways) := ⟨rfl, rfl, rfl, by decide +kernel, rfl, by decide +kernel, by decide +kernel⟩
abbrev N__law_plan_copy : List Str := ["_law_plan_here", "_law_one"]
theorem sc__law_plan_copy : FnScope N__law_plan_copy ["_law_plan_here"] (defScope s__law_plan_copy) := ⟨rfl, rfl, rfl, by decide +kernel, rfl, by decide +kernel, by decide +kernel⟩
abbrev N__law_wreck : List Str := ["_law_plan_here", "_law_one"]
theorem sc__law_wreck : FnScope N__law_wreck ["_law_plan_here"] (defScope s__law_wreck) := ⟨rfl, rfl, rfl, by decide +kernel, rfl, by decide +kernel, by decide +kernel⟩
abbrev N_law : List Str := ["_law_script", "_law_flow_here", "_law_words", "_law_turn", "_law_plan_here", "_law_handed", "_law_due", "_law_step", "_law_found"]
theorem sc_law : FnScope N_law ["_law_script"] (defScope s_law) := ⟨rfl, rfl, rfl, by decide +kernel, rfl, by decide +kernel, by decide +kernel⟩
def d_is_number : He.DefD := ⟨("is_number", none), "is_number", "is_number", defArgs s_is_number, defBody s_is_number, defScope s_is_number, [], []⟩
def d_is_whole : He.DefD := ⟨("is_whole", none), "is_whole", "is_whole", defArgs s_is_whole, defBody s_is_whole, defScope s_is_whole, [], []⟩
def d_are_lengths : He.DefD := ⟨("are_lengths", none), "are_lengths", "are_lengths", defArgs s_are_lengths, defBody s_are_lengths, defScope s_are_lengths, [], []⟩
def d_is_lateness : He.DefD := ⟨("is_lateness", none), "is_lateness", "is_lateness", defArgs s_is_lateness, defBody s_is_lateness, defScope s_is_lateness, [], []⟩
def d_need_plan : He.DefD := ⟨("need_plan", none), "need_plan", "need_plan", defArgs s_need_plan, defBody s_need_plan, defScope s_need_plan, [], []⟩
def d_is_made : He.DefD := ⟨("is_made", none), "is_made", "is_made", defArgs s_is_made, defBody s_is_made, defScope s_is_made, [], []⟩
def d_inner_plans : He.DefD := ⟨("inner_plans", none), "inner_plans", "inner_plans", defArgs s_inner_plans, defBody s_inner_plans, defScope s_inner_plans, [], []⟩
def d_part_count : He.DefD := ⟨("part_count", none), "part_count", "part_count", defArgs s_part_count, defBody s_part_count, defScope s_part_count, [], []⟩
def d_reading_count : He.DefD := ⟨("reading_count", none), "reading_count", "reading_count", defArgs s_reading_count, defBody s_reading_count, defScope s_reading_count, [], []⟩
def d_readings : He.DefD := ⟨("readings", none), "readings", "readings", defArgs s_readings, defBody s_readings, defScope s_readings, [], []⟩
def d_reading : He.DefD := ⟨("reading", none), "reading", "reading", defArgs s_reading, defBody s_reading, defScope s_reading, [], []⟩
def d_taken : He.DefD := ⟨("taken", none), "taken", "taken", defArgs s_taken, defBody s_taken, defScope s_taken, [], []⟩
def d__law_flow : He.DefD := ⟨("_law_flow", none), "_law_flow", "_law_flow", defArgs s__law_flow, defBody s__law_flow, defScope s__law_flow, [], []⟩
def d__law_draw : He.DefD := ⟨("_law_draw", none), "_law_draw", "_law_draw", defArgs s__law_draw, defBody s__law_draw, defScope s__law_draw, [], []⟩
def d__law_same : He.DefD := ⟨("_law_same", none), "_law_same", "_law_same", defArgs s__law_same, defBody s__law_same, defScope s__law_same, [], []⟩
def d__law_whole : He.DefD := ⟨("_law_whole", none), "_law_whole", "_law_whole", defArgs s__law_whole, defBody s__law_whole, defScope s__law_whole, [], []⟩
def d__law_leaf : He.DefD := ⟨("_law_leaf", none), "_law_leaf", "_law_leaf", defArgs s__law_leaf, defBody s__law_leaf, defScope s__law_leaf, [], []⟩
def d__law_plan : He.DefD := ⟨("_law_plan", none), "_law_plan", "_law_plan", defArgs s__law_plan, defBody s__law_plan, defScope s__law_plan, [], []⟩
def d__law_kids : He.DefD := ⟨("_law_kids", none), "_law_kids", "_law_kids", defArgs s__law_kids, defBody s__law_kids, defScope s__law_kids, [], []⟩
def d__law_leaf_count : He.DefD := ⟨("_law_leaf_count", none), "_law_leaf_count", "_law_leaf_count", defArgs s__law_leaf_count, defBody s__law_leaf_count, defScope s__law_leaf_count, [], []⟩
def d__law_plan_depth : He.DefD := ⟨("_law_plan_depth", none), "_law_plan_depth", "_law_plan_depth", defArgs s__law_plan_depth, defBody s__law_plan_depth, defScope s__law_plan_depth, [], []⟩
def d__law_reading_count : He.DefD := ⟨("_law_reading_count", none), "_law_reading_count", "_law_reading_count", defArgs s__law_reading_count, defBody s__law_reading_count, defScope s__law_reading_count, [], []⟩
def d__law_good_leaf : He.DefD := ⟨("_law_good_leaf", none), "_law_good_leaf", "_law_good_leaf", defArgs s__law_good_leaf, defBody s__law_good_leaf, defScope s__law_good_leaf, [], []⟩
def d__law_good_form : He.DefD := ⟨("_law_good_form", none), "_law_good_form", "_law_good_form", defArgs s__law_good_form, defBody s__law_good_form, defScope s__law_good_form, [], []⟩
def d__law_good_plan : He.DefD := ⟨("_law_good_plan", none), "_law_good_plan", "_law_good_plan", defArgs s__law_good_plan, defBody s__law_good_plan, defScope s__law_good_plan, [], []⟩
def d__law_ways : He.DefD := ⟨("_law_ways", none), "_law_ways", "_law_ways", defArgs s__law_ways, defBody s__law_ways, defScope s__law_ways, [], []⟩
def d__law_plan_copy : He.DefD := ⟨("_law_plan_copy", none), "_law_plan_copy", "_law_plan_copy", defArgs s__law_plan_copy, defBody s__law_plan_copy, defScope s__law_plan_copy, [], []⟩
def d__law_wreck : He.DefD := ⟨("_law_wreck", none), "_law_wreck", "_law_wreck", defArgs s__law_wreck, defBody s__law_wreck, defScope s__law_wreck, [], []⟩
def d_law : He.DefD := ⟨("law", none), "law", "law", defArgs s_law, defBody s_law, defScope s_law, [], []⟩
def fn : List He.DefD := [d_is_number, d_is_whole, d_are_lengths, d_is_lateness, d_need_plan, d_is_made, d_inner_plans, d_part_count, d_reading_count, d_readings, d_reading, d_taken, d__law_flow, d__law_draw, d__law_same, d__law_whole, d__law_leaf, d__law_plan, d__law_kids, d__law_leaf_count, d__law_plan_depth, d__law_reading_count, d__law_good_leaf, d__law_good_form, d__law_good_plan, d__law_ways, d__law_plan_copy, d__law_wreck, d_law]
def fa0 : List He.Fa := [.glo "is_number", .glo "is_whole", .glo "are_lengths", .glo "is_lateness", .glo "need_plan", .glo "is_made", .glo "inner_plans", .glo "part_count", .glo "reading_count", .glo "readings", .glo "reading", .glo "taken", .glo "_law_flow", .glo "_law_draw", .glo "_law_same", .glo "_law_whole", .glo "_law_leaf", .glo "_law_plan", .glo "_law_kids", .glo "_law_leaf_count", .glo "_law_plan_depth", .glo "_law_reading_count", .glo "_law_good_leaf", .glo "_law_good_form", .glo "_law_good_plan", .glo "_law_ways", .glo "_law_plan_copy", .glo "_law_wreck", .glo "law", .free "isinstance"]
def fa1 : List He.Fa := [.free "int", .free "bool", .free "all", .free "tuple", .free "len", .free "str", .free "list", .free "sum", .free "range", .free "reversed", .free "divmod", .free "abs", .free "dict", .free "max", .int "MOST_LENGTH" 1000, .int "MOST_LATE" 1000, .int "MOST_TICKS" 1000, .int "MOST_PLANS" 4, .int "MOST_DEPTH" 6, .int "MOST_PARTS" 12, .int "MOST_READINGS" 64]
def fa : List He.Fa := fa0 ++ fa1
def exl (K : PySem.W.Frag) : List Bool := []
def ex (K : PySem.W.Frag) : Bool := (exl K).all id
theorem exAt {K : PySem.W.Frag} (h : ex K = true) (i : Nat) {b : Bool} (e : (exl K)[i]? = some b) : b = true := List.all_eq_true.mp h b (List.mem_of_getElem? e)
/-- what the top has written -/
structure Tp (K : PySem.W.Frag) (mg : Str → Option Value) : Prop where
  c : He.SaysD fa fn K
  m : ex K = true
  glo : ∀ (i : Nat) (x : Str), fa[i]? = some (.glo x) → mg x = some (.ref (He.ga K x))
  free : ∀ (i : Nat) (x : Str), fa[i]? = some (.free x) → mg x = none
  int : ∀ (i : Nat) (x : Str) (n : Int), fa[i]? = some (.int x n) → ∃ u, mg x = some u ∧ RelV (.int n) u
  str : ∀ (i : Nat) (x z : Str), fa[i]? = some (.str x z) → ∃ u, mg x = some u ∧ RelV (.str z) u
theorem tp_mk {K : PySem.W.Frag} {h : Heap} {mg : Str → Option Value} (X : K.In h) (G : h.Ns mainGlobals mg) (c : He.SaysD fa fn K) (m : ex K = true) : Tp K mg :=
  ⟨c, m, fun i x e => He.glo_ok X G (c.fact i e), fun i x e => He.free_ok X G (c.fact i e), fun i x n e => let ⟨t, h⟩ := He.int_ok X G (c.fact i e); ⟨_, h, t, rfl⟩, fun i x z e => let ⟨t, h⟩ := He.str_ok X G (c.fact i e); ⟨_, h, t, rfl⟩⟩
section
variable {K : PySem.W.Frag} {mg : Str → Option Value}
theorem g_is_number (T : Tp K mg) : mg "is_number" = some (.ref (He.ga K "is_number")) := T.glo 0 _ rfl
theorem g_is_whole (T : Tp K mg) : mg "is_whole" = some (.ref (He.ga K "is_whole")) := T.glo 1 _ rfl
theorem g_are_lengths (T : Tp K mg) : mg "are_lengths" = some (.ref (He.ga K "are_lengths")) := T.glo 2 _ rfl
theorem g_is_lateness (T : Tp K mg) : mg "is_lateness" = some (.ref (He.ga K "is_lateness")) := T.glo 3 _ rfl
theorem g_need_plan (T : Tp K mg) : mg "need_plan" = some (.ref (He.ga K "need_plan")) := T.glo 4 _ rfl
theorem g_is_made (T : Tp K mg) : mg "is_made" = some (.ref (He.ga K "is_made")) := T.glo 5 _ rfl
theorem g_inner_plans (T : Tp K mg) : mg "inner_plans" = some (.ref (He.ga K "inner_plans")) := T.glo 6 _ rfl
theorem g_part_count (T : Tp K mg) : mg "part_count" = some (.ref (He.ga K "part_count")) := T.glo 7 _ rfl
theorem g_reading_count (T : Tp K mg) : mg "reading_count" = some (.ref (He.ga K "reading_count")) := T.glo 8 _ rfl
theorem g_readings (T : Tp K mg) : mg "readings" = some (.ref (He.ga K "readings")) := T.glo 9 _ rfl
theorem g_reading (T : Tp K mg) : mg "reading" = some (.ref (He.ga K "reading")) := T.glo 10 _ rfl
theorem g_taken (T : Tp K mg) : mg "taken" = some (.ref (He.ga K "taken")) := T.glo 11 _ rfl
theorem g__law_flow (T : Tp K mg) : mg "_law_flow" = some (.ref (He.ga K "_law_flow")) := T.glo 12 _ rfl
theorem g__law_draw (T : Tp K mg) : mg "_law_draw" = some (.ref (He.ga K "_law_draw")) := T.glo 13 _ rfl
theorem g__law_same (T : Tp K mg) : mg "_law_same" = some (.ref (He.ga K "_law_same")) := T.glo 14 _ rfl
theorem g__law_whole (T : Tp K mg) : mg "_law_whole" = some (.ref (He.ga K "_law_whole")) := T.glo 15 _ rfl
theorem g__law_leaf (T : Tp K mg) : mg "_law_leaf" = some (.ref (He.ga K "_law_leaf")) := T.glo 16 _ rfl
theorem g__law_plan (T : Tp K mg) : mg "_law_plan" = some (.ref (He.ga K "_law_plan")) := T.glo 17 _ rfl
theorem g__law_kids (T : Tp K mg) : mg "_law_kids" = some (.ref (He.ga K "_law_kids")) := T.glo 18 _ rfl
theorem g__law_leaf_count (T : Tp K mg) : mg "_law_leaf_count" = some (.ref (He.ga K "_law_leaf_count")) := T.glo 19 _ rfl
theorem g__law_plan_depth (T : Tp K mg) : mg "_law_plan_depth" = some (.ref (He.ga K "_law_plan_depth")) := T.glo 20 _ rfl
theorem g__law_reading_count (T : Tp K mg) : mg "_law_reading_count" = some (.ref (He.ga K "_law_reading_count")) := T.glo 21 _ rfl
theorem g__law_good_leaf (T : Tp K mg) : mg "_law_good_leaf" = some (.ref (He.ga K "_law_good_leaf")) := T.glo 22 _ rfl
theorem g__law_good_form (T : Tp K mg) : mg "_law_good_form" = some (.ref (He.ga K "_law_good_form")) := T.glo 23 _ rfl
theorem g__law_good_plan (T : Tp K mg) : mg "_law_good_plan" = some (.ref (He.ga K "_law_good_plan")) := T.glo 24 _ rfl
theorem g__law_ways (T : Tp K mg) : mg "_law_ways" = some (.ref (He.ga K "_law_ways")) := T.glo 25 _ rfl
theorem g__law_plan_copy (T : Tp K mg) : mg "_law_plan_copy" = some (.ref (He.ga K "_law_plan_copy")) := T.glo 26 _ rfl
theorem g__law_wreck (T : Tp K mg) : mg "_law_wreck" = some (.ref (He.ga K "_law_wreck")) := T.glo 27 _ rfl
theorem g_law (T : Tp K mg) : mg "law" = some (.ref (He.ga K "law")) := T.glo 28 _ rfl
theorem z_isinstance (T : Tp K mg) : mg "isinstance" = none := T.free 29 _ rfl
theorem z_int (T : Tp K mg) : mg "int" = none := T.free 30 _ rfl
theorem z_bool (T : Tp K mg) : mg "bool" = none := T.free 31 _ rfl
theorem z_all (T : Tp K mg) : mg "all" = none := T.free 32 _ rfl
theorem z_tuple (T : Tp K mg) : mg "tuple" = none := T.free 33 _ rfl
theorem z_len (T : Tp K mg) : mg "len" = none := T.free 34 _ rfl
theorem z_str (T : Tp K mg) : mg "str" = none := T.free 35 _ rfl
theorem z_list (T : Tp K mg) : mg "list" = none := T.free 36 _ rfl
theorem z_sum (T : Tp K mg) : mg "sum" = none := T.free 37 _ rfl
theorem z_range (T : Tp K mg) : mg "range" = none := T.free 38 _ rfl
theorem z_reversed (T : Tp K mg) : mg "reversed" = none := T.free 39 _ rfl
theorem z_divmod (T : Tp K mg) : mg "divmod" = none := T.free 40 _ rfl
theorem z_abs (T : Tp K mg) : mg "abs" = none := T.free 41 _ rfl
theorem z_dict (T : Tp K mg) : mg "dict" = none := T.free 42 _ rfl
theorem z_max (T : Tp K mg) : mg "max" = none := T.free 43 _ rfl
theorem c_MOST_LENGTH (T : Tp K mg) : ∃ u, mg "MOST_LENGTH" = some u ∧ RelV (.int 1000) u := T.int 44 _ _ rfl
theorem c_MOST_LATE (T : Tp K mg) : ∃ u, mg "MOST_LATE" = some u ∧ RelV (.int 1000) u := T.int 45 _ _ rfl
theorem c_MOST_TICKS (T : Tp K mg) : ∃ u, mg "MOST_TICKS" = some u ∧ RelV (.int 1000) u := T.int 46 _ _ rfl
theorem c_MOST_PLANS (T : Tp K mg) : ∃ u, mg "MOST_PLANS" = some u ∧ RelV (.int 4) u := T.int 47 _ _ rfl
theorem c_MOST_DEPTH (T : Tp K mg) : ∃ u, mg "MOST_DEPTH" = some u ∧ RelV (.int 6) u := T.int 48 _ _ rfl
theorem c_MOST_PARTS (T : Tp K mg) : ∃ u, mg "MOST_PARTS" = some u ∧ RelV (.int 12) u := T.int 49 _ _ rfl
theorem c_MOST_READINGS (T : Tp K mg) : ∃ u, mg "MOST_READINGS" = some u ∧ RelV (.int 64) u := T.int 50 _ _ rfl
theorem f_is_number (T : Tp K mg) : ∃ fd, FunD K "is_number" "is_number" (defArgs s_is_number) (defBody s_is_number) (defScope s_is_number) [] [] (He.ga K "is_number") fd := T.c.def_ 0 (d := d_is_number) rfl
theorem b_is_number {f : Addr} {fd : FuncData} (F : FunD K "is_number" "is_number" (defArgs s_is_number) (defBody s_is_number) (defScope s_is_number) [] [] f fd) : Binds K fd ["thing"] [] := F.bindsN fun _ _ _ _ _ _ us hl => match us, hl with | [_], _ => rfl
theorem f_is_whole (T : Tp K mg) : ∃ fd, FunD K "is_whole" "is_whole" (defArgs s_is_whole) (defBody s_is_whole) (defScope s_is_whole) [] [] (He.ga K "is_whole") fd := T.c.def_ 1 (d := d_is_whole) rfl
theorem b_is_whole {f : Addr} {fd : FuncData} (F : FunD K "is_whole" "is_whole" (defArgs s_is_whole) (defBody s_is_whole) (defScope s_is_whole) [] [] f fd) : Binds K fd ["thing", "least", "most"] [] := F.bindsN fun _ _ _ _ _ _ us hl => match us, hl with | [_, _, _], _ => rfl
theorem f_are_lengths (T : Tp K mg) : ∃ fd, FunD K "are_lengths" "are_lengths" (defArgs s_are_lengths) (defBody s_are_lengths) (defScope s_are_lengths) [] [] (He.ga K "are_lengths") fd := T.c.def_ 2 (d := d_are_lengths) rfl
theorem b_are_lengths {f : Addr} {fd : FuncData} (F : FunD K "are_lengths" "are_lengths" (defArgs s_are_lengths) (defBody s_are_lengths) (defScope s_are_lengths) [] [] f fd) : Binds K fd ["low", "high"] [] := F.bindsN fun _ _ _ _ _ _ us hl => match us, hl with | [_, _], _ => rfl
theorem f_is_lateness (T : Tp K mg) : ∃ fd, FunD K "is_lateness" "is_lateness" (defArgs s_is_lateness) (defBody s_is_lateness) (defScope s_is_lateness) [] [] (He.ga K "is_lateness") fd := T.c.def_ 3 (d := d_is_lateness) rfl
theorem b_is_lateness {f : Addr} {fd : FuncData} (F : FunD K "is_lateness" "is_lateness" (defArgs s_is_lateness) (defBody s_is_lateness) (defScope s_is_lateness) [] [] f fd) : Binds K fd ["late"] [] := F.bindsN fun _ _ _ _ _ _ us hl => match us, hl with | [_], _ => rfl
theorem f_need_plan (T : Tp K mg) : ∃ fd, FunD K "need_plan" "need_plan" (defArgs s_need_plan) (defBody s_need_plan) (defScope s_need_plan) [] [] (He.ga K "need_plan") fd := T.c.def_ 4 (d := d_need_plan) rfl
theorem b_need_plan {f : Addr} {fd : FuncData} (F : FunD K "need_plan" "need_plan" (defArgs s_need_plan) (defBody s_need_plan) (defScope s_need_plan) [] [] f fd) : Binds K fd ["plan"] [] := F.bindsN fun _ _ _ _ _ _ us hl => match us, hl with | [_], _ => rfl
theorem f_is_made (T : Tp K mg) : ∃ fd, FunD K "is_made" "is_made" (defArgs s_is_made) (defBody s_is_made) (defScope s_is_made) [] [] (He.ga K "is_made") fd := T.c.def_ 5 (d := d_is_made) rfl
theorem b_is_made {f : Addr} {fd : FuncData} (F : FunD K "is_made" "is_made" (defArgs s_is_made) (defBody s_is_made) (defScope s_is_made) [] [] f fd) : Binds K fd ["plan", "depth"] [] := F.bindsN fun _ _ _ _ _ _ us hl => match us, hl with | [_, _], _ => rfl
theorem f_inner_plans (T : Tp K mg) : ∃ fd, FunD K "inner_plans" "inner_plans" (defArgs s_inner_plans) (defBody s_inner_plans) (defScope s_inner_plans) [] [] (He.ga K "inner_plans") fd := T.c.def_ 6 (d := d_inner_plans) rfl
theorem b_inner_plans {f : Addr} {fd : FuncData} (F : FunD K "inner_plans" "inner_plans" (defArgs s_inner_plans) (defBody s_inner_plans) (defScope s_inner_plans) [] [] f fd) : Binds K fd ["plan"] [] := F.bindsN fun _ _ _ _ _ _ us hl => match us, hl with | [_], _ => rfl
theorem f_part_count (T : Tp K mg) : ∃ fd, FunD K "part_count" "part_count" (defArgs s_part_count) (defBody s_part_count) (defScope s_part_count) [] [] (He.ga K "part_count") fd := T.c.def_ 7 (d := d_part_count) rfl
theorem b_part_count {f : Addr} {fd : FuncData} (F : FunD K "part_count" "part_count" (defArgs s_part_count) (defBody s_part_count) (defScope s_part_count) [] [] f fd) : Binds K fd ["plan"] [] := F.bindsN fun _ _ _ _ _ _ us hl => match us, hl with | [_], _ => rfl
theorem f_reading_count (T : Tp K mg) : ∃ fd, FunD K "reading_count" "reading_count" (defArgs s_reading_count) (defBody s_reading_count) (defScope s_reading_count) [] [] (He.ga K "reading_count") fd := T.c.def_ 8 (d := d_reading_count) rfl
theorem b_reading_count {f : Addr} {fd : FuncData} (F : FunD K "reading_count" "reading_count" (defArgs s_reading_count) (defBody s_reading_count) (defScope s_reading_count) [] [] f fd) : Binds K fd ["plan"] [] := F.bindsN fun _ _ _ _ _ _ us hl => match us, hl with | [_], _ => rfl
theorem f_readings (T : Tp K mg) : ∃ fd, FunD K "readings" "readings" (defArgs s_readings) (defBody s_readings) (defScope s_readings) [] [] (He.ga K "readings") fd := T.c.def_ 9 (d := d_readings) rfl
theorem b_readings {f : Addr} {fd : FuncData} (F : FunD K "readings" "readings" (defArgs s_readings) (defBody s_readings) (defScope s_readings) [] [] f fd) : Binds K fd ["plan"] [] := F.bindsN fun _ _ _ _ _ _ us hl => match us, hl with | [_], _ => rfl
theorem f_reading (T : Tp K mg) : ∃ fd, FunD K "reading" "reading" (defArgs s_reading) (defBody s_reading) (defScope s_reading) [] [] (He.ga K "reading") fd := T.c.def_ 10 (d := d_reading) rfl
theorem b_reading {f : Addr} {fd : FuncData} (F : FunD K "reading" "reading" (defArgs s_reading) (defBody s_reading) (defScope s_reading) [] [] f fd) : Binds K fd ["plan", "at"] [] := F.bindsN fun _ _ _ _ _ _ us hl => match us, hl with | [_, _], _ => rfl
theorem f_taken (T : Tp K mg) : ∃ fd, FunD K "taken" "taken" (defArgs s_taken) (defBody s_taken) (defScope s_taken) [] [] (He.ga K "taken") fd := T.c.def_ 11 (d := d_taken) rfl
theorem b_taken {f : Addr} {fd : FuncData} (F : FunD K "taken" "taken" (defArgs s_taken) (defBody s_taken) (defScope s_taken) [] [] f fd) : Binds K fd ["plans", "at"] [] := F.bindsN fun _ _ _ _ _ _ us hl => match us, hl with | [_, _], _ => rfl
theorem f__law_flow (T : Tp K mg) : ∃ fd, FunD K "_law_flow" "_law_flow" (defArgs s__law_flow) (defBody s__law_flow) (defScope s__law_flow) [] [] (He.ga K "_law_flow") fd := T.c.def_ 12 (d := d__law_flow) rfl
theorem b__law_flow {f : Addr} {fd : FuncData} (F : FunD K "_law_flow" "_law_flow" (defArgs s__law_flow) (defBody s__law_flow) (defScope s__law_flow) [] [] f fd) : Binds K fd ["_law_script"] [] := F.bindsN fun _ _ _ _ _ _ us hl => match us, hl with | [_], _ => rfl
theorem f__law_draw (T : Tp K mg) : ∃ fd, FunD K "_law_draw" "_law_draw" (defArgs s__law_draw) (defBody s__law_draw) (defScope s__law_draw) [] [] (He.ga K "_law_draw") fd := T.c.def_ 13 (d := d__law_draw) rfl
theorem b__law_draw {f : Addr} {fd : FuncData} (F : FunD K "_law_draw" "_law_draw" (defArgs s__law_draw) (defBody s__law_draw) (defScope s__law_draw) [] [] f fd) : Binds K fd ["_law_flow_here", "_law_size"] [] := F.bindsN fun _ _ _ _ _ _ us hl => match us, hl with | [_, _], _ => rfl
theorem f__law_same (T : Tp K mg) : ∃ fd, FunD K "_law_same" "_law_same" (defArgs s__law_same) (defBody s__law_same) (defScope s__law_same) [] [] (He.ga K "_law_same") fd := T.c.def_ 14 (d := d__law_same) rfl
theorem b__law_same {f : Addr} {fd : FuncData} (F : FunD K "_law_same" "_law_same" (defArgs s__law_same) (defBody s__law_same) (defScope s__law_same) [] [] f fd) : Binds K fd ["_law_found", "_law_due"] [] := F.bindsN fun _ _ _ _ _ _ us hl => match us, hl with | [_, _], _ => rfl
theorem f__law_whole (T : Tp K mg) : ∃ fd, FunD K "_law_whole" "_law_whole" (defArgs s__law_whole) (defBody s__law_whole) (defScope s__law_whole) [] [] (He.ga K "_law_whole") fd := T.c.def_ 15 (d := d__law_whole) rfl
theorem b__law_whole {f : Addr} {fd : FuncData} (F : FunD K "_law_whole" "_law_whole" (defArgs s__law_whole) (defBody s__law_whole) (defScope s__law_whole) [] [] f fd) : Binds K fd ["_law_thing", "_law_low", "_law_high"] [] := F.bindsN fun _ _ _ _ _ _ us hl => match us, hl with | [_, _, _], _ => rfl
theorem f__law_leaf (T : Tp K mg) : ∃ fd, FunD K "_law_leaf" "_law_leaf" (defArgs s__law_leaf) (defBody s__law_leaf) (defScope s__law_leaf) [] [] (He.ga K "_law_leaf") fd := T.c.def_ 16 (d := d__law_leaf) rfl
theorem b__law_leaf {f : Addr} {fd : FuncData} (F : FunD K "_law_leaf" "_law_leaf" (defArgs s__law_leaf) (defBody s__law_leaf) (defScope s__law_leaf) [] [] f fd) : Binds K fd ["_law_flow_here", "_law_far"] [] := F.bindsN fun _ _ _ _ _ _ us hl => match us, hl with | [_, _], _ => rfl
theorem f__law_plan (T : Tp K mg) : ∃ fd, FunD K "_law_plan" "_law_plan" (defArgs s__law_plan) (defBody s__law_plan) (defScope s__law_plan) [] [] (He.ga K "_law_plan") fd := T.c.def_ 17 (d := d__law_plan) rfl
theorem b__law_plan {f : Addr} {fd : FuncData} (F : FunD K "_law_plan" "_law_plan" (defArgs s__law_plan) (defBody s__law_plan) (defScope s__law_plan) [] [] f fd) : Binds K fd ["_law_flow_here", "_law_bottom", "_law_words", "_law_far"] [] := F.bindsN fun _ _ _ _ _ _ us hl => match us, hl with | [_, _, _, _], _ => rfl
theorem f__law_kids (T : Tp K mg) : ∃ fd, FunD K "_law_kids" "_law_kids" (defArgs s__law_kids) (defBody s__law_kids) (defScope s__law_kids) [] [] (He.ga K "_law_kids") fd := T.c.def_ 18 (d := d__law_kids) rfl
theorem b__law_kids {f : Addr} {fd : FuncData} (F : FunD K "_law_kids" "_law_kids" (defArgs s__law_kids) (defBody s__law_kids) (defScope s__law_kids) [] [] f fd) : Binds K fd ["_law_plan_here"] [] := F.bindsN fun _ _ _ _ _ _ us hl => match us, hl with | [_], _ => rfl
theorem f__law_leaf_count (T : Tp K mg) : ∃ fd, FunD K "_law_leaf_count" "_law_leaf_count" (defArgs s__law_leaf_count) (defBody s__law_leaf_count) (defScope s__law_leaf_count) [] [] (He.ga K "_law_leaf_count") fd := T.c.def_ 19 (d := d__law_leaf_count) rfl
theorem b__law_leaf_count {f : Addr} {fd : FuncData} (F : FunD K "_law_leaf_count" "_law_leaf_count" (defArgs s__law_leaf_count) (defBody s__law_leaf_count) (defScope s__law_leaf_count) [] [] f fd) : Binds K fd ["_law_plan_here"] [] := F.bindsN fun _ _ _ _ _ _ us hl => match us, hl with | [_], _ => rfl
theorem f__law_plan_depth (T : Tp K mg) : ∃ fd, FunD K "_law_plan_depth" "_law_plan_depth" (defArgs s__law_plan_depth) (defBody s__law_plan_depth) (defScope s__law_plan_depth) [] [] (He.ga K "_law_plan_depth") fd := T.c.def_ 20 (d := d__law_plan_depth) rfl
theorem b__law_plan_depth {f : Addr} {fd : FuncData} (F : FunD K "_law_plan_depth" "_law_plan_depth" (defArgs s__law_plan_depth) (defBody s__law_plan_depth) (defScope s__law_plan_depth) [] [] f fd) : Binds K fd ["_law_plan_here"] [] := F.bindsN fun _ _ _ _ _ _ us hl => match us, hl with | [_], _ => rfl
theorem f__law_reading_count (T : Tp K mg) : ∃ fd, FunD K "_law_reading_count" "_law_reading_count" (defArgs s__law_reading_count) (defBody s__law_reading_count) (defScope s__law_reading_count) [] [] (He.ga K "_law_reading_count") fd := T.c.def_ 21 (d := d__law_reading_count) rfl
theorem b__law_reading_count {f : Addr} {fd : FuncData} (F : FunD K "_law_reading_count" "_law_reading_count" (defArgs s__law_reading_count) (defBody s__law_reading_count) (defScope s__law_reading_count) [] [] f fd) : Binds K fd ["_law_plan_here"] [] := F.bindsN fun _ _ _ _ _ _ us hl => match us, hl with | [_], _ => rfl
theorem f__law_good_leaf (T : Tp K mg) : ∃ fd, FunD K "_law_good_leaf" "_law_good_leaf" (defArgs s__law_good_leaf) (defBody s__law_good_leaf) (defScope s__law_good_leaf) [] [] (He.ga K "_law_good_leaf") fd := T.c.def_ 22 (d := d__law_good_leaf) rfl
theorem b__law_good_leaf {f : Addr} {fd : FuncData} (F : FunD K "_law_good_leaf" "_law_good_leaf" (defArgs s__law_good_leaf) (defBody s__law_good_leaf) (defScope s__law_good_leaf) [] [] f fd) : Binds K fd ["_law_plan_here"] [] := F.bindsN fun _ _ _ _ _ _ us hl => match us, hl with | [_], _ => rfl
theorem f__law_good_form (T : Tp K mg) : ∃ fd, FunD K "_law_good_form" "_law_good_form" (defArgs s__law_good_form) (defBody s__law_good_form) (defScope s__law_good_form) [] [] (He.ga K "_law_good_form") fd := T.c.def_ 23 (d := d__law_good_form) rfl
theorem b__law_good_form {f : Addr} {fd : FuncData} (F : FunD K "_law_good_form" "_law_good_form" (defArgs s__law_good_form) (defBody s__law_good_form) (defScope s__law_good_form) [] [] f fd) : Binds K fd ["_law_plan_here"] [] := F.bindsN fun _ _ _ _ _ _ us hl => match us, hl with | [_], _ => rfl
theorem f__law_good_plan (T : Tp K mg) : ∃ fd, FunD K "_law_good_plan" "_law_good_plan" (defArgs s__law_good_plan) (defBody s__law_good_plan) (defScope s__law_good_plan) [] [] (He.ga K "_law_good_plan") fd := T.c.def_ 24 (d := d__law_good_plan) rfl
theorem b__law_good_plan {f : Addr} {fd : FuncData} (F : FunD K "_law_good_plan" "_law_good_plan" (defArgs s__law_good_plan) (defBody s__law_good_plan) (defScope s__law_good_plan) [] [] f fd) : Binds K fd ["_law_plan_here"] [] := F.bindsN fun _ _ _ _ _ _ us hl => match us, hl with | [_], _ => rfl
theorem f__law_ways (T : Tp K mg) : ∃ fd, FunD K "_law_ways" "_law_ways" (defArgs s__law_ways) (defBody s__law_ways) (defScope s__law_ways) [] [] (He.ga K "_law_ways") fd := T.c.def_ 25 (d := d__law_ways) rfl
theorem b__law_ways {f : Addr} {fd : FuncData} (F : FunD K "_law_ways" "_law_ways" (defArgs s__law_ways) (defBody s__law_ways) (defScope s__law_ways) [] [] f fd) : Binds K fd ["_law_plan_here"] [] := F.bindsN fun _ _ _ _ _ _ us hl => match us, hl with | [_], _ => rfl
theorem f__law_plan_copy (T : Tp K mg) : ∃ fd, FunD K "_law_plan_copy" "_law_plan_copy" (defArgs s__law_plan_copy) (defBody s__law_plan_copy) (defScope s__law_plan_copy) [] [] (He.ga K "_law_plan_copy") fd := T.c.def_ 26 (d := d__law_plan_copy) rfl
theorem b__law_plan_copy {f : Addr} {fd : FuncData} (F : FunD K "_law_plan_copy" "_law_plan_copy" (defArgs s__law_plan_copy) (defBody s__law_plan_copy) (defScope s__law_plan_copy) [] [] f fd) : Binds K fd ["_law_plan_here"] [] := F.bindsN fun _ _ _ _ _ _ us hl => match us, hl with | [_], _ => rfl
theorem f__law_wreck (T : Tp K mg) : ∃ fd, FunD K "_law_wreck" "_law_wreck" (defArgs s__law_wreck) (defBody s__law_wreck) (defScope s__law_wreck) [] [] (He.ga K "_law_wreck") fd := T.c.def_ 27 (d := d__law_wreck) rfl
theorem b__law_wreck {f : Addr} {fd : FuncData} (F : FunD K "_law_wreck" "_law_wreck" (defArgs s__law_wreck) (defBody s__law_wreck) (defScope s__law_wreck) [] [] f fd) : Binds K fd ["_law_plan_here"] [] := F.bindsN fun _ _ _ _ _ _ us hl => match us, hl with | [_], _ => rfl
theorem f_law (T : Tp K mg) : ∃ fd, FunD K "law" "law" (defArgs s_law) (defBody s_law) (defScope s_law) [] [] (He.ga K "law") fd := T.c.def_ 28 (d := d_law) rfl
theorem b_law {f : Addr} {fd : FuncData} (F : FunD K "law" "law" (defArgs s_law) (defBody s_law) (defScope s_law) [] [] f fd) : Binds K fd ["_law_script"] [] := F.bindsN fun _ _ _ _ _ _ us hl => match us, hl with | [_], _ => rfl
end
/-! the head -/
def loose0 : List PySem.Str := ["__name__", "is_number", "is_whole", "TideError", "BadPlan", "MOST_LENGTH", "MOST_LATE", "are_lengths", "is_lateness", "MOST_TICKS", "MOST_PLANS", "MOST_DEPTH", "MOST_PARTS", "MOST_READINGS", "need_plan", "is_made", "inner_plans", "part_count", "reading_count", "readings", "reading", "taken", "_law_flow", "_law_draw", "_law_same", "_law_whole", "_law_leaf", "_law_plan", "_law_kids", "_law_leaf_count"]
def loose1 : List PySem.Str := ["_law_plan_depth", "_law_reading_count", "_law_good_leaf", "_law_good_form", "_law_good_plan", "_law_ways", "_law_plan_copy", "_law_wreck"]
def loose : List PySem.Str := loose0 ++ loose1
abbrev R : PySem.W.OpenRow := PySem.W.OpenLaw.row PySem.Challenge.rw_tidewaiter_k50_readings_told
abbrev hk : PySem.W.Hook := He.hookD 5 fa fn
def ob (s : PySem.W.SharedT) : He.AlD := He.obsDG 5 fa fn (HandSHeadRun.getT s)
theorem ob_eq (s : PySem.W.SharedT) : ob s = hk.obs s.abs := He.obsDG_eq (HandSHeadRun.getT_eq s)
abbrev lawAt : Nat := 42
end Tw

set_option maxHeartbeats 0
namespace Tw
open PySem PySem.Spec PyProof.Rows L2
theorem run (w : World) : HandSHeadRun.RunEq R (PySem.W.view R.prog [lawAt]) hk ob 8000 loose w := by
  intro os
  kernel_rfl
end Tw

set_option maxHeartbeats 4000000
/-! comprehensions whose block changes nothing -/
namespace Tw
open PySem PySem.Spec PyProof.Rows L2
section
variable {α β : Type} {J : It} {G : Hp → Prop} {Y : Nat → Hp → V → Hp → Prop} {g : TG} {tt : TT} {te : TE} {vs : List Nat} {σ : L2.St} {H0 : Hp} {D : Addr} {Qd : Hp → Prop}
/-- [elt for target in source if test]: as the source's items as data, f the item's own (none: left out), S what a told item is -/
theorem lc_pure (as : List α) (w : Walk J as.length G Y) (f : α → Option β) (S : Hp → V → β → Prop) (Sk : ∀ {H H' v b}, Kt H H' → S H v b → S H' v b) (nD : H0 D = none) (hn : as.length ≤ 1000) (hG : ∀ H, Same H0 H → G H)
    (hs : ∀ i a x H H', as[i]? = some a → Same H0 H → Y i H x H' → ∀ (Good : V → Hp → Prop) (Bad : Hp → Prop), (∀ y c H4, f a = some c → Same H H4 → S H4 y c → Good y H4) → (f a = none → ∀ H3, Same H H3 → Bad H3) →
      g x (wipe σ vs) H' fun σ2 H2 => wipe σ2 vs = wipe σ vs ∧ tt σ2 H2 fun b H3 => if b = true then te σ2 H3 Good else Bad H3)
    (hd : ∀ H acc, Same H0 H → H D = some (.lst acc) → Paired (S H) acc (as.filterMap f) → Qd H) :
    ∃ W : Nat → Nat → Hp → Prop, (∃ m, W 0 m (upd H0 D (.lst []))) ∧ ∀ i m H, W i m H →
      (J.stop i H ∧ Qd H) ∨ (J.go i H ∧ ∃ Nx : Hp → Prop, (∀ H', Nx H' → ∃ m', m' < m ∧ W (i + 1) m' H') ∧ ∀ x H', J.yld i H x H' → g x (wipe σ vs) H' fun σ2 H2 => wipe σ2 vs = wipe σ vs ∧ tt σ2 H2 fun b H3 =>
        if b = true then te σ2 H3 fun y H4 => ∃ acc, H4 D = some (.lst acc) ∧ acc.length < sizeLine ∧ Nx (upd H4 D (.lst (acc ++ [y]))) else Nx H3) := by
  refine lc_it w (fun i H => Same H0 H ∧ ∃ acc, H D = some (.lst acc) ∧ Paired (S H) acc ((as.take i).filterMap f)) ⟨same_upd nD, [], upd_same, .nil⟩ (fun _ H _ h => hG H h.1) ?_ ?_
  · rintro i x H H' hi ⟨s1, acc, d1, p1⟩ y
    obtain ⟨a, ea⟩ : ∃ a, as[i]? = some a := ⟨as[i], by simp [hi]⟩
    have e2 : (as.take (i + 1)).filterMap f = (as.take i).filterMap f ++ (f a).toList := by
      rw [List.take_add_one, ea, List.filterMap_append]
      cases h : f a <;> simp [List.filterMap, h]
    refine hs i a x H H' ea s1 y _ _ (fun z c H4 ec s4 hz => ⟨acc, s4 _ _ d1, ?_, ?_, acc ++ [z], upd_same, ?_⟩) (fun en H3 s3 => ⟨s1.trans s3, acc, s3 _ _ d1, ?_⟩)
    · have hl := Paired.length p1
      have h2 : ((as.take i).filterMap f).length ≤ as.length := Nat.le_trans (List.length_filterMap_le _ _) (by rw [List.length_take]; omega)
      exact small1000 (by omega)
    · intro b o e
      rw [upd_ne (ne_of_none e nD)]
      exact s4 _ _ (s1 b o e)
    · rw [e2, ec]
      have kk : Kt H4 (upd H4 D (.lst (acc ++ [z]))) := Kt.upd fun xs e => by
        rw [s4 _ _ d1] at e
        cases e
      exact Paired.snoc (Paired.mono (fun v b h => Sk kk (Sk (Kt.of s4) h)) p1) (Sk kk hz)
    · rw [e2, en]
      show Paired _ _ (_ ++ [])
      rw [List.append_nil]
      exact Paired.mono (fun v b h => Sk (Kt.of s3) h) p1
  · rintro H ⟨s1, acc, d1, p1⟩
    rw [List.take_of_length_le (Nat.le_refl _)] at p1
    exact hd H acc s1 d1 p1
end
theorem walk_listN {K : PySem.W.Frag} {a : Addr} {xs : List V} {n : Nat} (h : xs.length = n) : Walk (Itl K a) n (fun H => SqL K H a xs) (YAt xs) := h ▸ walk_list
theorem walk_tupN {K : PySem.W.Frag} {a : Addr} {xs : List V} {n : Nat} (h : xs.length = n) : Walk (Itt K a) n (fun H => SqT K H a xs) (YAt xs) := h ▸ walk_tup
theorem sl_tupK {X : Cx} {K : PySem.W.Frag} (h : X.K = K) : SlR X (rSlT K) := h ▸ sl_tup
theorem sl_listK {X : Cx} {K : PySem.W.Frag} (h : X.K = K) : SlR X (rSlL K) := h ▸ sl_list
theorem flat_bls (l : List Bool) : (l.map V.bl).all flatV = true := by
  rw [List.all_map]
  exact List.all_eq_true.mpr fun _ _ => rfl
/-- a told item that is plain -/
def SV {β : Type} (enc : β → V) : Hp → V → β → Prop := fun _ v b => v = enc b
theorem paired_enc {β : Type} {enc : β → V} {H : Hp} : ∀ {acc : List V} {bs : List β}, Paired (SV enc H) acc bs → acc = bs.map enc
  | _, _, .nil => rfl
  | _, _, .cons h t => by
    rw [List.map_cons, ← paired_enc t, ← show _ = _ from h]
/-- a told item that is a tuple -/
def SR {β : Type} (row : β → List V) : Hp → V → β → Prop := fun H v b => ∃ t, v = .ref t ∧ H t = some (.tup (row b))
theorem sr_k {β : Type} {row : β → List V} {H H' : Hp} {v : V} {b : β} (k : Kt H H') (h : SR row H v b) : SR row H' v b := by
  obtain ⟨t, e, ht⟩ := h
  exact ⟨t, e, k _ _ ht⟩
theorem paired_rows {β : Type} {row : β → List V} {H : Hp} : ∀ {acc : List V} {bs : List β}, Paired (SR row H) acc bs → Rows H acc (bs.map row)
  | _, _, .nil => .nil
  | _, _, .cons h t => .cons h (paired_rows t)
theorem rows_at {β : Type} {row : β → List V} {H : Hp} {xs : List V} {bs : List β} {i : Nat} {x : V} {b : β} (h : Rows H xs (bs.map row)) (e : xs[i]? = some x) (eb : bs[i]? = some b) : ∃ t, x = .ref t ∧ H t = some (.tup (row b)) := by
  obtain ⟨t, r, h1, h2, h3⟩ := h.at e
  rw [List.getElem?_map, eb] at h2
  cases h2
  exact ⟨t, h1, h3⟩
end Tw

set_option maxHeartbeats 4000000
namespace Tw
open PySem PySem.Spec PyProof.Rows L2
theorem flat_strs (l : List Str) : (l.map V.str).all flatV = true := by
  rw [List.all_map]
  exact List.all_eq_true.mpr fun _ _ => rfl
theorem in_strs (z : Str) (l : List Str) : inV (.str z) (l.map V.str) = decide (z ∈ l) := by
  unfold inV
  rw [List.any_map]
  induction l with
  | nil => rfl
  | cons a r ih =>
    rw [List.any_cons, ih]
    have e : ((fun y => eqV y (.str z)) ∘ V.str) a = decide (z = a) := by
      show (a == z) = decide (z = a)
      by_cases h : z = a
      · subst h
        simp
      · rw [decide_eq_false h]
        exact beq_eq_false_iff_ne.mpr fun q => h q.symm
    rw [e]
    simp only [List.mem_cons]
    by_cases h : z = a <;> simp [h]
section
variable {P : Program} {w : World} {K : PySem.W.Frag} {mg : Str → Option Value} {base : Heap}
/-! ### is_number, is_whole, is_one_of -/
/-- None, a truth, an int or a text: its kind -/
def plK : V → Option String
  | .non => some "NoneType"
  | .bl _ => some "bool"
  | .int _ => some "int"
  | .str _ => some "str"
  | _ => none
theorem plK_ty {H : Hp} {v : V} {a : String} (h : plK v = some a) : TyX K H v (.type a) ∧ a ∈ kinds := by
  cases v with
  | non => cases h; exact ⟨.base .non, by decide⟩
  | bl b => cases h; exact ⟨.base (.bl _), by decide⟩
  | int i => cases h; exact ⟨.base (.int _), by decide⟩
  | str z => cases h; exact ⟨.base (.str _), by decide⟩
  | byt b => cases h
  | flt b => cases h
  | ref b => cases h
  | ty b => cases h
def numB (a : String) : Bool := kitT a "int" && !kitT a "bool"
def sp_is_number : Sp := fun vs H Q _ => ∃ (v : V) (a : String), vs = [v] ∧ plK v = some a ∧ Q (.bl (numB a)) H
theorem cal_is_number (T : Tp K mg) : Cal P w K mg base 1 "is_number" sp_is_number := by
  obtain ⟨fd, F⟩ := f_is_number T
  refine cal_of F (g_is_number T) (b_is_number F) sc_is_number (fun vs H Q E h => ?_) (fun cdv A outer s H vs Q E hr h => ?_)
  · obtain ⟨v, a, rfl, _⟩ := h
    rfl
  · obtain ⟨v, a, rfl, hk, q⟩ := h
    obtain ⟨ty, ha⟩ := plK_ty (K := K) (H := H) hk
    refine ⟨_, (pss_one (ps_ret (pe_and (pe_callB call_isK (by rfl) (z_isinstance T) bb_isinstance (pa_cons (pv 0) (pa_cons (pe_bltn (v := .ty "int") (by rfl) (z_int T) bb_int rfl) pa_nil))) (pe_one (pe_not (pe_callB call_isK (by rfl) (z_isinstance T) bb_isinstance (pa_cons (pv 0) (pa_cons (pe_bltn (v := .ty "bool") (by rfl) (z_bool T) bb_bool rfl) pa_nil)))))))), ?_⟩
    refine ⟨_, rfl, _, "int", a, rfl, ty, ha, by decide, _, rfl, ?_⟩
    unfold numB at q
    cases e : kitT a "int" with
    | true =>
      rw [e] at q
      exact iteT ⟨_, rfl, _, "bool", a, rfl, ty, ha, by decide, _, rfl, q⟩
    | false =>
      rw [e] at q
      exact iteF q
def sp_is_whole : Sp := fun vs H Q _ => ∃ (i lo hi : Int), vs = [.int i, .int lo, .int hi] ∧ Q (.bl (decide (lo ≤ i ∧ i ≤ hi))) H
theorem cal_is_whole (T : Tp K mg) : Cal P w K mg base 2 "is_whole" sp_is_whole := by
  obtain ⟨fd, F⟩ := f_is_whole T
  refine cal_of F (g_is_whole T) (b_is_whole F) sc_is_whole (fun vs H Q E h => ?_) (fun cdv A outer s H vs Q E hr h => ?_)
  · obtain ⟨i, lo, hi, rfl, _⟩ := h
    rfl
  · obtain ⟨i, lo, hi, rfl, q⟩ := h
    refine ⟨_, (pss_one (ps_ret (pe_and (C8.pe_c (cal_is_number T) hr (by decide) rfl (pa_cons (pv 0) pa_nil)) (pe_one (pe_chain op_le op_le (pv 1) (pv 0) (pv 2)))))), ?_⟩
    refine ⟨_, rfl, .int i, "int", rfl, rfl, _, rfl, ?_⟩
    refine iteT ⟨_, rfl, _, rfl, _, _, rfl, rfl, _, rfl, ite2 (fun e => ?_) (fun e => ?_)⟩
    · have e1 : lo ≤ i := of_decide_eq_true e
      refine ⟨_, rfl, _, _, rfl, rfl, ?_⟩
      have e2 : decide (lo ≤ i ∧ i ≤ hi) = decide (i ≤ hi) := by simp [e1]
      rw [e2] at q
      exact q
    · have e1 : ¬ lo ≤ i := fun z => e (decide_eq_true z)
      have e2 : decide (lo ≤ i ∧ i ≤ hi) = false := by simp [e1]
      rw [e2] at q
      exact q
/-- is_whole of any plain value -/
def whB (lo hi : Int) : V → Bool
  | .int i => decide (lo ≤ i ∧ i ≤ hi)
  | _ => false
def sp_iswh : Sp := fun vs H Q _ => ∃ (v : V) (lo hi : Int), vs = [v, .int lo, .int hi] ∧ (plK v).isSome = true ∧ Q (.bl (whB lo hi v)) H
theorem cal_iswh (T : Tp K mg) : Cal P w K mg base 2 "is_whole" sp_iswh := by
  obtain ⟨fd, F⟩ := f_is_whole T
  refine cal_of F (g_is_whole T) (b_is_whole F) sc_is_whole (fun vs H Q E h => ?_) (fun cdv A outer s H vs Q E hr h => ?_)
  · obtain ⟨v, lo, hi, rfl, _⟩ := h
    rfl
  · obtain ⟨v, lo, hi, rfl, hk, q⟩ := h
    refine ⟨_, (pss_one (ps_ret (pe_and (C8.pe_c (cal_is_number T) hr (by decide) rfl (pa_cons (pv 0) pa_nil)) (pe_one (pe_chain op_le op_le (pv 1) (pv 0) (pv 2)))))), ?_⟩
    cases v with
    | non => exact ⟨_, rfl, .non, "NoneType", rfl, rfl, _, rfl, iteF q⟩
    | bl b => exact ⟨_, rfl, .bl b, "bool", rfl, rfl, _, rfl, iteF q⟩
    | str z => exact ⟨_, rfl, .str z, "str", rfl, rfl, _, rfl, iteF q⟩
    | byt b => cases hk
    | flt b => cases hk
    | ref b => cases hk
    | ty b => cases hk
    | int i =>
      refine ⟨_, rfl, .int i, "int", rfl, rfl, _, rfl, ?_⟩
      refine iteT ⟨_, rfl, _, rfl, _, _, rfl, rfl, _, rfl, ite2 (fun e => ?_) (fun e => ?_)⟩
      · have e1 : lo ≤ i := of_decide_eq_true e
        refine ⟨_, rfl, _, _, rfl, rfl, ?_⟩
        have e2 : decide (lo ≤ i ∧ i ≤ hi) = decide (i ≤ hi) := by simp [e1]
        have q : Q (.bl (decide (lo ≤ i ∧ i ≤ hi))) H := q
        rw [e2] at q
        exact q
      · have e1 : ¬ lo ≤ i := fun z => e (decide_eq_true z)
        have e2 : decide (lo ≤ i ∧ i ≤ hi) = false := by simp [e1]
        have q : Q (.bl (decide (lo ≤ i ∧ i ≤ hi))) H := q
        rw [e2] at q
        exact q
def sp_is_one_of : Sp := fun vs H Q _ => ∃ (z : Str) (p : Addr) (l : List Str), vs = [.str z, .ref p] ∧ H p = some (.lst (l.map V.str)) ∧ Q (.bl (decide (z ∈ l))) H
/-! ### is_name -/
def sp_is_name : Sp := fun vs H Q _ => ∃ z : Str, vs = [.str z] ∧ Nm z ∧ ∀ H', Same H H' → Q (.bl true) H'
end
end Tw

set_option maxHeartbeats 4000000
namespace Tw
open PySem PySem.Spec PyProof.Rows L2
/-! ### the law's flow of numbers -/
structure Flow (H : Hp) (f c : Addr) : Prop where
  ex : ∃ (ns : List Int) (i r st : Int), H f = some (.lst [.ref c, .int i, .int r, .int st]) ∧ H c = some (.lst (ns.map V.int)) ∧ 0 ≤ i ∧ 0 ≤ r ∧ 0 ≤ st ∧ st < 2147483647
theorem Flow.lst {H : Hp} {f c : Addr} (h : Flow H f c) : ∃ xs, H f = some (.lst xs) := let ⟨_, _, _, _, e, _⟩ := h.ex; ⟨_, e⟩
theorem Flow.cells {H : Hp} {f c : Addr} (h : Flow H f c) : ∃ xs, H c = some (.lst xs) := let ⟨_, _, _, _, _, e, _⟩ := h.ex; ⟨_, e⟩
theorem Flow.keep {H H' : Hp} {f c : Addr} (h : Flow H f c) (h1 : ∀ o, H f = some o → H' f = some o) (h2 : ∀ o, H c = some o → H' c = some o) : Flow H' f c := by
  obtain ⟨ns, i, r, st, e1, e2, e3⟩ := h.ex
  exact ⟨ns, i, r, st, h1 _ e1, h2 _ e2, e3⟩
theorem Flow.same {H H' : Hp} {f c : Addr} (h : Flow H f c) (s : Same H H') : Flow H' f c := h.keep (fun _ e => s _ _ e) (fun _ e => s _ _ e)
theorem Flow.upd {H : Hp} {f c p : Addr} {o : HO} (h : Flow H f c) (n1 : f ≠ p) (n2 : c ≠ p) : Flow (upd H p o) f c := h.keep (fun _ e => by rw [upd_ne n1]; exact e) (fun _ e => by rw [upd_ne n2]; exact e)
theorem flow_ne {H : Hp} {f c : Addr} {i r st : Int} {ns : List Int} (h1 : H f = some (.lst [.ref c, .int i, .int r, .int st])) (h2 : H c = some (.lst (ns.map V.int))) : c ≠ f := by
  refine ne_of h2 h1 fun e => ?_
  have e := HO.lst.inj e
  cases ns with
  | nil => cases e
  | cons x l =>
    have e1 := (List.cons.inj e).1
    cases e1
theorem Flow.put {H : Hp} {f c : Addr} {i r st : Int} {ns : List Int} (h1 : H f = some (.lst [.ref c, .int i, .int r, .int st])) (h2 : H c = some (.lst (ns.map V.int))) {i' r' st' : Int} (a : 0 ≤ i') (b : 0 ≤ r') (d : 0 ≤ st') (e : st' < 2147483647) :
    Flow (L2.upd H f (.lst [.ref c, .int i', .int r', .int st'])) f c := ⟨ns, i', r', st', upd_same, by rw [upd_ne (flow_ne h1 h2)]; exact h2, a, b, d, e⟩
theorem cut_ints (ns : List Int) (lo hi : Option Int) : ∃ ms : List Int, cutV (ns.map V.int) lo hi = ms.map V.int := by
  unfold cutV
  refine ⟨(ns.drop (HT.sIx (ns.map V.int).length 0 lo)).take (HT.sIx (ns.map V.int).length (ns.map V.int).length hi - HT.sIx (ns.map V.int).length 0 lo), ?_⟩
  rw [List.map_take, List.map_drop]
theorem fm_lo (x : Int) {n : Int} (h : 0 < n) : 0 ≤ x.fmod n := by
  rw [Int.fmod_eq_emod_of_nonneg _ (Int.le_of_lt h)]
  exact Int.emod_nonneg _ (Int.ne_of_gt h)
theorem fm_hi (x : Int) {n : Int} (h : 0 < n) : x.fmod n < n := by
  rw [Int.fmod_eq_emod_of_nonneg _ (Int.le_of_lt h)]
  exact Int.emod_lt_of_pos _ h
theorem fd_lo {x n : Int} (hx : 0 ≤ x) (h : 0 < n) : 0 ≤ x.fdiv n := by
  rw [Int.fdiv_eq_ediv_of_nonneg _ (Int.le_of_lt h)]
  exact Int.ediv_nonneg hx (Int.le_of_lt h)
theorem abs_lo (x : Int) : (0 : Int) ≤ if x < 0 then -x else x := by
  split <;> omega
section
variable {P : Program} {w : World} {K : PySem.W.Frag} {mg : Str → Option Value} {base : Heap}
def CDivX (_ j : Int) : Prop := j ≠ 0 ∧ j.natAbs.log2 < 9000
theorem op_fdivX {X : Cx} : OpR X (binaryOp .FloorDiv) (rI CDivX fun i j => .int (i.fdiv j)) := opI fun _ _ _ _ _ _ _ hc q => floordiv_int hc.1 q (.inl (PyProof.noPylong_of_log2 hc.2))
theorem big_log {n : Int} (h1 : n < 1606938044258990275541962092341162602522202993782792835301376) (h0 : 0 < n) : n.natAbs.log2 < 9000 := by
  have h : n.natAbs < 2 ^ 200 := by
    have e : (2 : Nat) ^ 200 = 1606938044258990275541962092341162602522202993782792835301376 := by decide +kernel
    rw [e]
    omega
  exact Nat.lt_trans ((Nat.log2_lt (by omega)).mpr h) (by decide)
def sp_flow (K : PySem.W.Frag) : Sp := fun vs H Q _ => ∃ (a : Addr) (ns : List Int), vs = [.ref a] ∧ SqL K H a (ns.map V.int) ∧ ∀ (f c : Addr) (H' : Hp), Same H H' → H f = none → H c = none → Flow H' f c → Q (.ref f) H'
theorem cal__law_flow (T : Tp K mg) : Cal P w K mg base 2 "_law_flow" (sp_flow K) := by
  obtain ⟨fd, F⟩ := f__law_flow T
  refine cal_of F (g__law_flow T) (b__law_flow F) sc__law_flow (fun vs H Q E h => ?_) (fun cdv A outer s H vs Q E hr h => ?_)
  · obtain ⟨a, ns, rfl, _⟩ := h
    rfl
  · obtain ⟨a, ns, rfl, hS, q⟩ := h
    refine ⟨_, (pss_one (ps_ret (pe_lst (pa_cons (pe_callTy call_list_of (by rfl) (z_list T) bb_list (pa_cons (pe_slice sl_list (pv 0) po_none (po_some pe_int)) pa_nil)) (pa_cons pe_int (pa_cons pe_int (pa_cons pe_int pa_nil))))))), ?_⟩
    refine ⟨_, rfl, 63, rfl, a, _, rfl, hS, fun p np => ?_⟩
    obtain ⟨ms, e⟩ := cut_ints ns none (some 63)
    rw [e]
    have s1 := same_upd (o := .lst (ms.map V.int)) np
    refine ⟨p, _, rfl, .inl (.inl (.inl upd_same)), fun l nl => ?_⟩
    have s2 := same_upd (o := .lst (ms.map V.int)) nl
    refine ⟨by show 4 ≤ sizeLine; decide, fun f nf => ?_⟩
    have s3 := same_upd (o := .lst [.ref l, .int 0, .int 0, .int 11]) nf
    have sa := s1.trans s2
    exact q f l _ (sa.trans s3) (sa.free nf) (s1.free nl) ⟨ms, 0, 0, 11, upd_same, s3 _ _ upd_same, by decide, by decide, by decide, by decide⟩
/-! ### _law_draw -/
def sp_draw : Sp := fun vs H Q _ => ∃ (f c : Addr) (n : Int), vs = [.ref f, .int n] ∧ Flow H f c ∧ 0 < n ∧ n < 1606938044258990275541962092341162602522202993782792835301376 ∧ ∀ (v : Int) (H' : Hp), 0 ≤ v → v < n → Sb f H H' → Flow H' f c → Q (.int v) H'
theorem cal__law_draw (T : Tp K mg) : Cal P w K mg base 2 "_law_draw" sp_draw := by
  obtain ⟨fd, F⟩ := f__law_draw T
  refine cal_of F (g__law_draw T) (b__law_draw F) sc__law_draw (fun vs H Q E h => ?_) (fun cdv A outer s H vs Q E hr h => ?_)
  · obtain ⟨f, c, n, rfl, _⟩ := h
    rfl
  · obtain ⟨f, c, n, rfl, FL, n0, n1, q⟩ := h
    obtain ⟨ns, i, r, st, hf, hc, i0, r0, st0, st1⟩ := FL.ex
    have hn : n ≠ 0 := by omega
    have hdiv : CDivX r n := ⟨hn, big_log n1 n0⟩
    have ncf := flow_ne hf hc
    refine ⟨_, (pss_cons (ps_if (pt_cmpR op_gt (pe_ix ix_list (pv 0) pe_int (fun _ _ => rfl)) pe_int (nomark _)) (pss_cons (ps_set (i := 2) sc__law_draw.nd rfl (.inl rfl) (pe_op op_modN (pe_ix ix_list (pv 0) pe_int (fun _ _ => rfl)) (pv 1)))
        (pss_cons (ps_asg (pe_op op_fdivX (pe_ix ix_list (pv 0) pe_int (fun _ _ => rfl)) (pv 1)) (pg_sub (pv 0) pe_int set_list))
        (pss_one (ps_ret (pv 2))))) pss_nil)
      (pss_cons (ps_set (i := 3) sc__law_draw.nd rfl (.inl rfl) pe_int)
      (C8.pss_cut (ps_if (pt_cmpR op_lt (pe_ix ix_list (pv 0) pe_int (fun _ _ => rfl)) (pe_callB call_len_seq (by rfl) (z_len T) bb_len (pa_cons (pe_ix ix_list (pv 0) pe_int (fun _ _ => rfl)) pa_nil)) (nomark _)) (pss_one (ps_set (i := 3) sc__law_draw.nd rfl (.inl rfl) (pe_ix ix_list (pe_ix ix_list (pv 0) pe_int (fun _ _ => rfl)) (pe_ix ix_list (pv 0) pe_int (fun _ _ => rfl)) (fun _ _ => rfl)))) pss_nil)
      (pss_cons (ps_asg (pe_op op_add (pe_ix ix_list (pv 0) pe_int (fun _ _ => rfl)) pe_int) (pg_sub (pv 0) pe_int set_list))
      (pss_cons (ps_if (pt_cmpR op_ge (pe_callB call_abs (by rfl) (z_abs T) bb_abs (pa_cons (pv 3) pa_nil)) (pe_op op_pow pe_int pe_int) (nomark _)) (pss_cons (ps_asg (pe_op op_fdivX (pe_callB call_abs (by rfl) (z_abs T) bb_abs (pa_cons (pv 3) pa_nil)) (pv 1)) (pg_sub (pv 0) pe_int set_list))
        (pss_one (ps_ret (pe_op op_modN (pe_callB call_abs (by rfl) (z_abs T) bb_abs (pa_cons (pv 3) pa_nil)) (pv 1))))) pss_nil)
      (pss_cons (ps_set (i := 4) sc__law_draw.nd rfl (.inl rfl) (pe_op op_add (pe_op op_add (pe_op op_pow (pe_ix ix_list (pv 0) pe_int (fun _ _ => rfl)) pe_int) (pe_op op_mul (pe_ix ix_list (pv 0) pe_int (fun _ _ => rfl)) pe_int)) (pe_op op_mul (pe_ix ix_list (pv 0) pe_int (fun _ _ => rfl)) pe_int)))
      (pss_cons (ps_set (i := 4) sc__law_draw.nd rfl (.inl rfl) (pe_op op_modN (pe_op op_add (pv 4) (pe_op op_mul (pe_op op_modN (pv 3) pe_int) pe_int)) pe_int))
      (pss_cons (ps_asg (pv 4) (pg_sub (pv 0) pe_int set_list))
      (pss_one (ps_ret (pe_op op_modN (pe_op op_add (pe_op op_fdivN (pv 4) pe_int) (pe_op op_mul (pe_op op_modN (pv 4) pe_int) pe_int)) (pv 1)))))))))))), ?_⟩
    refine ⟨_, rfl, f, _, 2, _, rfl, rfl, .inl (.inl hf), atI_nat (j := 2) rfl, _, _, rfl, rfl, _, rfl, ite2 (fun e => ?_) (fun e => ?_)⟩
    · -- numbers are left of a great one
      refine ⟨_, rfl, f, _, 2, _, rfl, rfl, .inl (.inl hf), atI_nat (j := 2) rfl, _, rfl, _, _, rfl, rfl, hn, ?_⟩
      refine ⟨_, rfl, f, _, 2, _, rfl, rfl, .inl (.inl hf), atI_nat (j := 2) rfl, _, rfl, _, _, rfl, rfl, hdiv, _, rfl, f, _, 2, 2, rfl, rfl, hf, rfl, ?_⟩
      exact ⟨_, rfl, q _ _ (fm_lo _ n0) (fm_hi _ n0) Sb.upd (Flow.put hf hc i0 (fd_lo r0 n0) st0 st1)⟩
    · -- the next cell
      refine ⟨fun σ' H' => H' = H ∧ ∃ x : Int, σ' = [some (.ref f), some (.int n), none, some (.int x), none], ?_, ?_⟩
      · refine ⟨_, rfl, f, _, 1, _, rfl, rfl, .inl (.inl hf), atI_nat (j := 1) rfl, _, rfl, f, _, 0, _, rfl, rfl, .inl (.inl hf), atI_nat (j := 0) rfl, c, _, rfl, .inl (.inl (.inl hc)), _, _, rfl, rfl, _, rfl, ite2 (fun e => ?_) (fun e => ?_)⟩
        · have hi : i < ((ns.map V.int).length : Int) := of_decide_eq_true e
          rw [List.length_map] at hi
          have hj : i.toNat < ns.length := by omega
          refine ⟨_, rfl, f, _, 0, _, rfl, rfl, .inl (.inl hf), atI_nat (j := 0) rfl, _, rfl, f, _, 1, _, rfl, rfl, .inl (.inl hf), atI_nat (j := 1) rfl, c, _, i, .int ns[i.toNat], rfl, rfl, .inl (.inl hc), ?_, rfl, ns[i.toNat], rfl⟩
          refine at_of (j := i.toNat) (by omega) ?_
          rw [List.getElem?_map, List.getElem?_eq_getElem hj]
          rfl
        · exact ⟨rfl, 0, rfl⟩
      · rintro σ' H' ⟨rfl, x, rfl⟩
        -- flow[1] = flow[1] + 1
        refine ⟨_, rfl, f, _, 1, _, rfl, rfl, .inl (.inl hf), atI_nat (j := 1) rfl, _, _, rfl, rfl, _, rfl, f, _, 1, 1, rfl, rfl, hf, rfl, ?_⟩
        have hf1 : (upd H' f (.lst [.ref c, .int (i + 1), .int r, .int st])) f = some (.lst [.ref c, .int (i + 1), .int r, .int st]) := upd_same
        have hc1 : (upd H' f (.lst [.ref c, .int (i + 1), .int r, .int st])) c = some (.lst (ns.map V.int)) := by
          rw [upd_ne ncf]
          exact hc
        have sb1 : Sb f H' (upd H' f (.lst [.ref c, .int (i + 1), .int r, .int st])) := Sb.upd
        have a0 := abs_lo x
        refine ⟨_, rfl, _, rfl, 10, 18, rfl, rfl, ⟨by decide, by decide, by decide⟩, _, _, rfl, rfl, _, rfl, ite2 (fun e => ?_) (fun e => ?_)⟩
        · refine ⟨_, rfl, _, rfl, _, rfl, _, _, rfl, rfl, ⟨hn, big_log n1 n0⟩, _, rfl, f, _, 2, 2, rfl, rfl, hf1, rfl, ?_⟩
          exact ⟨_, rfl, _, rfl, _, rfl, _, _, rfl, rfl, hn, q _ _ (fm_lo _ n0) (fm_hi _ n0) (sb1.trans Sb.upd) (Flow.put hf1 hc1 (by omega) (fd_lo a0 n0) st0 st1)⟩
        · refine ⟨_, rfl, f, _, 3, _, rfl, rfl, .inl (.inl hf1), atI_nat (j := 3) rfl, st, 3, rfl, rfl, ⟨by decide, by decide, by omega⟩, ?_⟩
          refine ⟨_, rfl, f, _, 3, _, rfl, rfl, .inl (.inl hf1), atI_nat (j := 3) rfl, st, 31, rfl, rfl, .inr ⟨by decide, by decide⟩, _, _, rfl, rfl, ?_⟩
          refine ⟨_, rfl, f, _, 1, _, rfl, rfl, .inl (.inl hf1), atI_nat (j := 1) rfl, i + 1, 69621, rfl, rfl, .inr ⟨by decide, by decide⟩, _, _, rfl, rfl, ?_⟩
          refine ⟨_, rfl, _, rfl, x, 2147483629, rfl, rfl, (show (2147483629 : Int) ≠ 0 by decide), _, 48271, rfl, rfl, .inr ⟨by decide, by decide⟩, _, _, rfl, rfl, _, 2147483647, rfl, rfl, (show (2147483647 : Int) ≠ 0 by decide), ?_⟩
          have b0 := fm_lo (st ^ (3 : Int).toNat + st * 31 + (i + 1) * 69621 + x.fmod 2147483629 * 48271) (n := 2147483647) (by decide)
          have b1 := fm_hi (st ^ (3 : Int).toNat + st * 31 + (i + 1) * 69621 + x.fmod 2147483629 * 48271) (n := 2147483647) (by decide)
          refine ⟨_, rfl, _, rfl, f, _, 3, 3, rfl, rfl, hf1, rfl, ?_⟩
          refine ⟨_, rfl, _, 8192, rfl, rfl, ⟨by decide, by decide⟩, _, rfl, _, 8191, rfl, rfl, (show (8191 : Int) ≠ 0 by decide), _, 40503, rfl, rfl, .inr ⟨by decide, by decide⟩, _, _, rfl, rfl, _, rfl, _, n, rfl, rfl, hn, ?_⟩
          exact q _ _ (fm_lo _ n0) (fm_hi _ n0) (sb1.trans Sb.upd) (Flow.put hf1 hc1 (by omega) r0 b0 b1)
/-! ### _law_pick -/
def sp_pick : Sp := fun vs H Q _ => ∃ (f c l : Addr) (xs : List V), vs = [.ref f, .ref l] ∧ Flow H f c ∧ H l = some (.lst xs) ∧ l ≠ f ∧ 0 < xs.length ∧ xs.length ≤ 1000 ∧ ∀ (v : V) (H' : Hp), v ∈ xs → Sb f H H' → Flow H' f c → Q v H'
end
end Tw

set_option maxHeartbeats 4000000
namespace Tw
open PySem PySem.Spec PyProof.Rows L2
section
variable {P : Program} {w : World} {K : PySem.W.Frag} {mg : Str → Option Value} {base : Heap}
/-! ### _law_whole -/
def sp_lwhole : Sp := fun vs H Q _ => ∃ (v : V) (lo hi : Int), vs = [v, .int lo, .int hi] ∧ (plK v).isSome = true ∧ Q (.bl (whB lo hi v)) H
theorem cal__law_whole (T : Tp K mg) : Cal P w K mg base 2 "_law_whole" sp_lwhole := by
  obtain ⟨fd, F⟩ := f__law_whole T
  refine cal_of F (g__law_whole T) (b__law_whole F) sc__law_whole (fun vs H Q E h => ?_) (fun cdv A outer s H vs Q E hr h => ?_)
  · obtain ⟨v, lo, hi, rfl, _⟩ := h
    rfl
  · obtain ⟨v, lo, hi, rfl, hk, q⟩ := h
    refine ⟨_, (pss_one (ps_ret (pe_and (pe_callB call_isK (by rfl) (z_isinstance T) bb_isinstance (pa_cons (pv 0) (pa_cons (pe_bltn (v := .ty "int") (by rfl) (z_int T) bb_int rfl) pa_nil))) (pe_and (pe_not (pe_callB call_isK (by rfl) (z_isinstance T) bb_isinstance (pa_cons (pv 0) (pa_cons (pe_bltn (v := .ty "bool") (by rfl) (z_bool T) bb_bool rfl) pa_nil)))) (pe_one (pe_chain op_le op_le (pv 1) (pv 0) (pv 2))))))), ?_⟩
    cases v with
    | non => exact ⟨_, rfl, _, "int", "NoneType", rfl, .base .non, by decide, by decide, _, rfl, iteF q⟩
    | bl b => exact ⟨_, rfl, _, "int", "bool", rfl, .base (.bl _), by decide, by decide, _, rfl, iteT ⟨_, rfl, _, "bool", "bool", rfl, .base (.bl _), by decide, by decide, _, rfl, _, rfl, iteF q⟩⟩
    | str z => exact ⟨_, rfl, _, "int", "str", rfl, .base (.str _), by decide, by decide, _, rfl, iteF q⟩
    | byt b => cases hk
    | flt b => cases hk
    | ref b => cases hk
    | ty b => cases hk
    | int i =>
      refine ⟨_, rfl, _, "int", "int", rfl, .base (.int _), by decide, by decide, _, rfl, iteT ⟨_, rfl, _, "bool", "int", rfl, .base (.int _), by decide, by decide, _, rfl, _, rfl, ?_⟩⟩
      refine iteT ⟨_, rfl, _, rfl, _, _, rfl, rfl, _, rfl, ite2 (fun e => ?_) (fun e => ?_)⟩
      · have e1 : lo ≤ i := of_decide_eq_true e
        refine ⟨_, rfl, _, _, rfl, rfl, ?_⟩
        have e2 : decide (lo ≤ i ∧ i ≤ hi) = decide (i ≤ hi) := by simp [e1]
        have q : Q (.bl (decide (lo ≤ i ∧ i ≤ hi))) H := q
        rw [e2] at q
        exact q
      · have e1 : ¬ lo ≤ i := fun z => e (decide_eq_true z)
        have e2 : decide (lo ≤ i ∧ i ≤ hi) = false := by simp [e1]
        have q : Q (.bl (decide (lo ≤ i ∧ i ≤ hi))) H := q
        rw [e2] at q
        exact q
end
end Tw

set_option maxHeartbeats 4000000
namespace Tw
open PySem PySem.Spec PyProof.Rows L2
/-- two values that are the same through and through, at most n deep -/
def Sm : Nat → V → V → Hp → Prop
  | 0, _, _, _ => False
  | n + 1, x, y, H => (x = y ∧ flatV x = true) ∨ ∃ (a b : Addr) (xs ys : List V), x = .ref a ∧ y = .ref b ∧ ((H a = some (.lst xs) ∧ H b = some (.lst ys)) ∨ (H a = some (.tup xs) ∧ H b = some (.tup ys))) ∧ xs.length = ys.length ∧ xs.length ≤ 1000 ∧
    ∀ (i : Nat) (x y : V), xs[i]? = some x → ys[i]? = some y → Sm n x y H
theorem Sm.same {H H' : Hp} (s : Same H H') : ∀ {n : Nat} {x y : V}, Sm n x y H → Sm n x y H'
  | 0, _, _, h => h.elim
  | n + 1, x, y, h => by
    rcases h with h | ⟨a, b, xs, ys, ex, ey, h, hl, hl2, hi⟩
    · exact .inl h
    · refine .inr ⟨a, b, xs, ys, ex, ey, ?_, hl, hl2, fun i x y h1 h2 => Sm.same s (hi i x y h1 h2)⟩
      rcases h with ⟨h1, h2⟩ | ⟨h1, h2⟩
      · exact .inl ⟨s _ _ h1, s _ _ h2⟩
      · exact .inr ⟨s _ _ h1, s _ _ h2⟩
theorem Sm.succ {H : Hp} : ∀ {n : Nat} {x y : V}, Sm n x y H → Sm (n + 1) x y H
  | 0, _, _, h => h.elim
  | n + 1, x, y, h => by
    rcases h with h | ⟨a, b, xs, ys, ex, ey, h, hl, hl2, hi⟩
    · exact .inl h
    · exact .inr ⟨a, b, xs, ys, ex, ey, h, hl, hl2, fun i x y h1 h2 => Sm.succ (hi i x y h1 h2)⟩
theorem Sm.flat {H : Hp} {n : Nat} {x : V} (h : flatV x = true) : Sm (n + 1) x x H := .inl ⟨rfl, h⟩
theorem sm_eq {H : Hp} {n : Nat} {x y : V} (e : x = y) (h : flatV x = true) : Sm (n + 1) x y H := by
  subst e
  exact Sm.flat h
theorem sm_lst {H : Hp} {a b : Addr} {xs ys : List V} {n : Nat} (h1 : H a = some (.lst xs)) (h2 : H b = some (.lst ys)) (hl : xs.length = ys.length) (h0 : xs.length ≤ 1000) (h : ∀ (i : Nat) (x y : V), xs[i]? = some x → ys[i]? = some y → Sm n x y H) : Sm (n + 1) (.ref a) (.ref b) H :=
  .inr ⟨a, b, xs, ys, rfl, rfl, .inl ⟨h1, h2⟩, hl, h0, h⟩
theorem sm_tup {H : Hp} {a b : Addr} {xs ys : List V} {n : Nat} (h1 : H a = some (.tup xs)) (h2 : H b = some (.tup ys)) (hl : xs.length = ys.length) (h0 : xs.length ≤ 1000) (h : ∀ (i : Nat) (x y : V), xs[i]? = some x → ys[i]? = some y → Sm n x y H) : Sm (n + 1) (.ref a) (.ref b) H :=
  .inr ⟨a, b, xs, ys, rfl, rfl, .inr ⟨h1, h2⟩, hl, h0, h⟩
theorem sm_flats {H : Hp} {xs : List V} {n : Nat} (hf : xs.all flatV = true) : ∀ (i : Nat) (x y : V), xs[i]? = some x → xs[i]? = some y → Sm (n + 1) x y H := fun i x y h1 h2 => by
  rw [h1] at h2
  cases h2
  exact Sm.flat (List.all_eq_true.mp hf x (List.mem_of_getElem? h1))
theorem sm_strs {H : Hp} {a b : Addr} {l : List Str} {n : Nat} (h1 : H a = some (.lst (l.map V.str))) (h2 : H b = some (.lst (l.map V.str))) (h0 : l.length ≤ 1000) : Sm (n + 2) (.ref a) (.ref b) H :=
  sm_lst h1 h2 rfl (by rw [List.length_map]; exact h0) (sm_flats (flat_strs l))
theorem sm_rows {H : Hp} {a b : Addr} {xs ys : List V} {rs : List (List V)} {n : Nat} (h1 : H a = some (.lst xs)) (h2 : H b = some (.lst ys)) (r1 : Rows H xs rs) (r2 : Rows H ys rs) (h0 : rs.length ≤ 1000) (hf : ∀ r ∈ rs, r.all flatV = true ∧ r.length ≤ 1000) : Sm (n + 3) (.ref a) (.ref b) H := by
  refine sm_lst h1 h2 (by rw [r1.len, r2.len]) (by rw [r1.len]; exact h0) fun i x y hx hy => ?_
  obtain ⟨t, r, rfl, hr, ht⟩ := r1.at hx
  obtain ⟨u, r', rfl, hr', hu⟩ := r2.at hy
  rw [hr] at hr'
  cases hr'
  have hr2 := hf r (List.mem_of_getElem? hr)
  exact sm_tup ht hu rfl hr2.2 (sm_flats hr2.1)
theorem rIx_of {K : PySem.W.Frag} {H : Hp} {a : Addr} {xs : List V} {i : Int} {v : V} {Q : VK} (h : SqL K H a xs ∨ SqT K H a xs) (e : atI xs i = some v) (q : Q v H) : rIx K (.ref a) (.int i) H Q := by
  rcases h with h | h
  · exact .inl ⟨a, xs, i, v, rfl, rfl, h, e, q⟩
  · exact .inr (.inl ⟨a, xs, i, v, rfl, rfl, h, e, q⟩)
theorem sq_same {K : PySem.W.Frag} {H H' : Hp} {a : Addr} {xs : List V} (s : Same H H') (h : SqL K H a xs ∨ SqT K H a xs) : SqL K H' a xs ∨ SqT K H' a xs := by
  rcases h with h | h
  · exact .inl (s.seq h)
  · refine .inr ?_
    rcases h with (h | ⟨o, h⟩) | h
    · exact .inl (.inl (s _ _ h))
    · exact .inl (.inr ⟨o, s _ _ h⟩)
    · exact .inr h
theorem lenV_of {K : PySem.W.Frag} {H : Hp} {a : Addr} {xs : List V} (h : SqL K H a xs ∨ SqT K H a xs) : LenV K (.ref a) H xs.length := by
  rcases h with h | h
  · exact .inl ⟨xs, h, rfl⟩
  · exact .inr ⟨xs, h, rfl⟩
section
variable {P : Program} {w : World} {K : PySem.W.Frag} {mg : Str → Option Value} {base : Heap}
def sp_same (n : Nat) : Sp := fun vs H Q _ => ∃ x y : V, vs = [x, y] ∧ Sm n x y H ∧ ∀ H', Same H H' → Q (.bl true) H'
theorem cal_same (T : Tp K mg) : ∀ n : Nat, Cal P w K mg base n "_law_same" (sp_same n)
  | 0 => by
    obtain ⟨fd, F⟩ := f__law_same T
    exact ⟨_, fd, ["_law_found", "_law_due"], [], ⟨fun vs H Q E h => by
      obtain ⟨x, y, rfl, _⟩ := h
      rfl, fun A outer s H args us vs Q E _ _ _ _ h => by
      obtain ⟨x, y, rfl, h, _⟩ := h
      exact h.elim⟩, g__law_same T, F.kp, b__law_same F, .nil⟩
  | n + 1 => by
    have ih := cal_same T n
    obtain ⟨fd, F⟩ := f__law_same T
    refine cal_of F (g__law_same T) (b__law_same F) sc__law_same (fun vs H Q E h => ?_) (fun cdv A outer s H vs Q E hr h => ?_)
    · obtain ⟨x, y, rfl, _⟩ := h
      rfl
    · obtain ⟨x, y, rfl, h, q⟩ := h
      refine ⟨_, (pss_cons (ps_if (pt_val (pe_callB call_isK (by rfl) (z_isinstance T) bb_isinstance (pa_cons (pv 1) (pa_cons (pe_bltn (v := .ty "bool") (by rfl) (z_bool T) bb_bool rfl) pa_nil)))) (pss_one (ps_ret (pe_and (pe_callB call_isK (by rfl) (z_isinstance T) bb_isinstance (pa_cons (pv 0) (pa_cons (pe_bltn (v := .ty "bool") (by rfl) (z_bool T) bb_bool rfl) pa_nil))) (pe_one (pe_cmpR op_eq (pv 0) (pv 1) (nomark _)))))) pss_nil)
      (pss_cons (ps_if (pt_cmpR op_isN (pv 1) pe_non (nomark _)) (pss_one (ps_ret (pe_cmpR op_isN (pv 0) pe_non (nomark _)))) pss_nil)
      (pss_cons (ps_if (pt_val (pe_callB call_isK (by rfl) (z_isinstance T) bb_isinstance (pa_cons (pv 1) (pa_cons (pe_bltn (v := .ty "int") (by rfl) (z_int T) bb_int rfl) pa_nil)))) (pss_cons (ps_if (PW.pt (pw_or (pt_val (pe_callB call_isK (by rfl) (z_isinstance T) bb_isinstance (pa_cons (pv 0) (pa_cons (pe_bltn (v := .ty "bool") (by rfl) (z_bool T) bb_bool rfl) pa_nil)))) (pw_or1 (pt_not (pt_val (pe_callB call_isK (by rfl) (z_isinstance T) bb_isinstance (pa_cons (pv 0) (pa_cons (pe_bltn (v := .ty "int") (by rfl) (z_int T) bb_int rfl) pa_nil)))))))) (pss_one (ps_ret pe_bl)) pss_nil)
        (pss_one (ps_ret (pe_cmpR op_eq (pv 0) (pv 1) (nomark _))))) pss_nil)
      (pss_cons (ps_if (pt_val (pe_callB call_isK (by rfl) (z_isinstance T) bb_isinstance (pa_cons (pv 1) (pa_cons (pe_bltn (v := .ty "str") (by rfl) (z_str T) bb_str rfl) pa_nil)))) (pss_one (ps_ret (pe_and (pe_callB call_isK (by rfl) (z_isinstance T) bb_isinstance (pa_cons (pv 0) (pa_cons (pe_bltn (v := .ty "str") (by rfl) (z_str T) bb_str rfl) pa_nil))) (pe_one (pe_cmpR op_eq (pv 0) (pv 1) (nomark _)))))) pss_nil)
      (pss_cons (ps_if (pt_val (pe_callB call_isK (by rfl) (z_isinstance T) bb_isinstance (pa_cons (pv 1) (pa_cons (pe_bltn (v := .ty "dict") (by rfl) (z_dict T) bb_dict rfl) pa_nil)))) pss_never pss_nil)
      (pss_cons (ps_if (PW.pt (pw_and (pt_val (pe_callB call_isK (by rfl) (z_isinstance T) bb_isinstance (pa_cons (pv 1) (pa_cons (pe_bltn (v := .ty "tuple") (by rfl) (z_tuple T) bb_tuple rfl) pa_nil)))) (pw_and1 (pt_not (pt_val (pe_callB call_isK (by rfl) (z_isinstance T) bb_isinstance (pa_cons (pv 0) (pa_cons (pe_bltn (v := .ty "tuple") (by rfl) (z_tuple T) bb_tuple rfl) pa_nil)))))))) (pss_one (ps_ret pe_bl)) pss_nil)
      (pss_cons (ps_if (PW.pt (pw_and (pt_val (pe_callB call_isK (by rfl) (z_isinstance T) bb_isinstance (pa_cons (pv 1) (pa_cons (pe_bltn (v := .ty "list") (by rfl) (z_list T) bb_list rfl) pa_nil)))) (pw_and1 (pt_not (pt_val (pe_callB call_isK (by rfl) (z_isinstance T) bb_isinstance (pa_cons (pv 0) (pa_cons (pe_bltn (v := .ty "list") (by rfl) (z_list T) bb_list rfl) pa_nil)))))))) (pss_one (ps_ret pe_bl)) pss_nil)
      (pss_cons (ps_if (pt_cmpR op_ne (pe_callB call_len (by rfl) (z_len T) bb_len (pa_cons (pv 0) pa_nil)) (pe_callB call_len (by rfl) (z_len T) bb_len (pa_cons (pv 1) pa_nil)) (nomark _)) (pss_one (ps_ret pe_bl)) pss_nil)
      (pss_one (ps_ret (pe_callB (cr_all rfl) (by rfl) (z_all T) bb_all (pa_cons (pe_lc (own := [("_law_k", 3)]) (g := gName 3) (tt := tYes) rfl sc__law_same.nd (pi_range1 rfl (z_range T) (pa_cons (pe_callB call_len (by rfl) (z_len T) bb_len (pa_cons (pv 1) pa_nil)) pa_nil)) (blkOk_by (N := N__law_same) (sc := defScope s__law_same) (by decide +kernel)) (fun _ _ _ _ _ => (pg_name (i := 3) sc__law_same.nd rfl (.inl rfl))) (fun _ _ _ _ _ => pts_nil) (fun _ _ _ _ _ => (C8.pe_c ih hr (Nat.le_refl _) rfl (pa_cons (pe_ix (ix_seqK (K := K) rfl) (pv 0) (pv 3) (fun _ _ => rfl)) (pa_cons (pe_ix (ix_seqK (K := K) rfl) (pv 1) (pv 3) (fun _ _ => rfl)) pa_nil))))) pa_nil)))))))))))), ?_⟩
      rcases h with ⟨e, fl⟩ | ⟨a, b, xs, ys, ex, ey, hk, hl, hl2, hi⟩
      · subst e
        cases x with
        | bl v =>
          refine ⟨_, rfl, _, "bool", "bool", rfl, .base (.bl _), by decide, by decide, _, rfl, iteT ⟨_, rfl, _, "bool", "bool", rfl, .base (.bl _), by decide, by decide, _, rfl, iteT ⟨_, rfl, _, rfl, rfl, ?_⟩⟩⟩
          rw [decide_eq_true rfl]
          exact q H (Same.refl H)
        | non =>
          refine ⟨_, rfl, _, "bool", "NoneType", rfl, .base .non, by decide, by decide, _, rfl, iteF ⟨_, rfl, rfl, _, rfl, ?_⟩⟩
          rw [decide_eq_true rfl]
          refine iteT ⟨_, rfl, rfl, ?_⟩
          exact q H (Same.refl H)
        | int i =>
          refine ⟨_, rfl, _, "bool", "int", rfl, .base (.int _), by decide, by decide, _, rfl, iteF ⟨_, rfl, rfl, _, rfl, ?_⟩⟩
          rw [decide_eq_false (show ¬ V.int i = V.non by intro z; cases z)]
          refine iteF ⟨_, rfl, _, "int", "int", rfl, .base (.int _), by decide, by decide, _, rfl, iteT ⟨_, rfl, _, "bool", "int", rfl, .base (.int _), by decide, by decide, _, rfl, iteF ⟨_, rfl, _, "int", "int", rfl, .base (.int _), by decide, by decide, _, rfl, iteF ⟨_, rfl, _, rfl, rfl, ?_⟩⟩⟩⟩
          rw [decide_eq_true rfl]
          exact q H (Same.refl H)
        | str z =>
          refine ⟨_, rfl, _, "bool", "str", rfl, .base (.str _), by decide, by decide, _, rfl, iteF ⟨_, rfl, rfl, _, rfl, ?_⟩⟩
          rw [decide_eq_false (show ¬ V.str z = V.non by intro z; cases z)]
          refine iteF ⟨_, rfl, _, "int", "str", rfl, .base (.str _), by decide, by decide, _, rfl, iteF ⟨_, rfl, _, "str", "str", rfl, .base (.str _), by decide, by decide, _, rfl, iteT ⟨_, rfl, _, "str", "str", rfl, .base (.str _), by decide, by decide, _, rfl, iteT ⟨_, rfl, _, rfl, rfl, ?_⟩⟩⟩⟩
          rw [decide_eq_true rfl]
          exact q H (Same.refl H)
        | byt _ => cases fl
        | flt _ => cases fl
        | ref _ => cases fl
        | ty _ => cases fl
      · subst ex ey
        have sx : SqL K H a xs ∨ SqT K H a xs := by
          rcases hk with ⟨h1, h2⟩ | ⟨h1, h2⟩
          · exact .inl (.inl (.inl h1))
          · exact .inr (.inl (.inl h1))
        have sy : SqL K H b ys ∨ SqT K H b ys := by
          rcases hk with ⟨h1, h2⟩ | ⟨h1, h2⟩
          · exact .inl (.inl (.inl h2))
          · exact .inr (.inl (.inl h2))
        have nn : ¬ V.ref b = V.non := by intro z; cases z
        rcases hk with ⟨h1, h2⟩ | ⟨h1, h2⟩
        · refine ⟨_, rfl, _, "bool", "list", rfl, .base (.lst h2), by decide, by decide, _, rfl, iteF ⟨_, rfl, rfl, _, rfl, ?_⟩⟩
          rw [decide_eq_false nn]
          refine iteF ⟨_, rfl, _, "int", "list", rfl, .base (.lst h2), by decide, by decide, _, rfl, iteF ⟨_, rfl, _, "str", "list", rfl, .base (.lst h2), by decide, by decide, _, rfl, iteF ⟨_, rfl, _, "dict", "list", rfl, .base (.lst h2), by decide, by decide, _, rfl, iteF
            ⟨_, rfl, _, "tuple", "list", rfl, .base (.lst h2), by decide, by decide, _, rfl, iteF (iteF ⟨_, rfl, _, "list", "list", rfl, .base (.lst h2), by decide, by decide, _, rfl, iteT ⟨_, rfl, _, "list", "list", rfl, .base (.lst h1), by decide, by decide, _, rfl, iteF ?_⟩⟩)⟩⟩⟩⟩
          refine ⟨_, rfl, _, _, rfl, lenV_of sx, _, rfl, _, _, rfl, lenV_of sy, rfl, _, rfl, ?_⟩
          refine iteNS (by rw [hl]) ?_
          refine ⟨_, rfl, _, _, rfl, lenV_of sy, _, rfl, by omega, by omega, fun D nD => ?_⟩
          refine lc_range (lo := 0) (n := ys.length) (fun i H1 => Same H H1 ∧ H1 D = some (.lst ((List.replicate i true).map V.bl))) ⟨same_upd nD, upd_same⟩ ?_ ?_
          · rintro i H1 hi1 ⟨s1, d1⟩
            have hx : i < xs.length := by omega
            refine ⟨rfl, yes_i (iteT ⟨_, rfl, _, rfl, rIx_of (v := xs[i]) (sq_same s1 sx) (at_of (j := i) (by omega) (List.getElem?_eq_getElem hx)) ⟨_, rfl, _, rfl, rIx_of (v := ys[i]) (sq_same s1 sy) (at_of (j := i) (by omega) (List.getElem?_eq_getElem hi1)) ⟨_, _, rfl, (hi i _ _ (List.getElem?_eq_getElem hx) (List.getElem?_eq_getElem hi1)).same s1, fun H2 s2 => ⟨_, s2 _ _ d1, ?_, ?_, ?_⟩⟩⟩⟩)⟩
            · rw [List.length_map, List.length_replicate]
              exact small1000 (by omega)
            · exact same_put (s1.trans s2) nD
            · rw [upd_same, List.replicate_succ', List.map_append]
              rfl
          · rintro H1 ⟨s1, d1⟩
            refine ⟨D, _, rfl, .inl (.inl d1), ?_⟩
            rw [show (List.replicate ys.length true).all id = true by simp]
            exact q H1 s1
        · refine ⟨_, rfl, _, "bool", "tuple", rfl, .base (.tup h2), by decide, by decide, _, rfl, iteF ⟨_, rfl, rfl, _, rfl, ?_⟩⟩
          rw [decide_eq_false nn]
          refine iteF ⟨_, rfl, _, "int", "tuple", rfl, .base (.tup h2), by decide, by decide, _, rfl, iteF ⟨_, rfl, _, "str", "tuple", rfl, .base (.tup h2), by decide, by decide, _, rfl, iteF ⟨_, rfl, _, "dict", "tuple", rfl, .base (.tup h2), by decide, by decide, _, rfl, iteF
            ⟨_, rfl, _, "tuple", "tuple", rfl, .base (.tup h2), by decide, by decide, _, rfl, iteT ⟨_, rfl, _, "tuple", "tuple", rfl, .base (.tup h1), by decide, by decide, _, rfl, iteF ⟨_, rfl, _, "list", "tuple", rfl, .base (.tup h2), by decide, by decide, _, rfl, iteF (iteF ?_)⟩⟩⟩⟩⟩⟩
          refine ⟨_, rfl, _, _, rfl, lenV_of sx, _, rfl, _, _, rfl, lenV_of sy, rfl, _, rfl, ?_⟩
          refine iteNS (by rw [hl]) ?_
          refine ⟨_, rfl, _, _, rfl, lenV_of sy, _, rfl, by omega, by omega, fun D nD => ?_⟩
          refine lc_range (lo := 0) (n := ys.length) (fun i H1 => Same H H1 ∧ H1 D = some (.lst ((List.replicate i true).map V.bl))) ⟨same_upd nD, upd_same⟩ ?_ ?_
          · rintro i H1 hi1 ⟨s1, d1⟩
            have hx : i < xs.length := by omega
            refine ⟨rfl, yes_i (iteT ⟨_, rfl, _, rfl, rIx_of (v := xs[i]) (sq_same s1 sx) (at_of (j := i) (by omega) (List.getElem?_eq_getElem hx)) ⟨_, rfl, _, rfl, rIx_of (v := ys[i]) (sq_same s1 sy) (at_of (j := i) (by omega) (List.getElem?_eq_getElem hi1)) ⟨_, _, rfl, (hi i _ _ (List.getElem?_eq_getElem hx) (List.getElem?_eq_getElem hi1)).same s1, fun H2 s2 => ⟨_, s2 _ _ d1, ?_, ?_, ?_⟩⟩⟩⟩)⟩
            · rw [List.length_map, List.length_replicate]
              exact small1000 (by omega)
            · exact same_put (s1.trans s2) nD
            · rw [upd_same, List.replicate_succ', List.map_append]
              rfl
          · rintro H1 ⟨s1, d1⟩
            refine ⟨D, _, rfl, .inl (.inl d1), ?_⟩
            rw [show (List.replicate ys.length true).all id = true by simp]
            exact q H1 s1
/-- as it is asked by the laws: data at most six deep -/
theorem cal__law_same (T : Tp K mg) : Cal P w K mg base 7 "_law_same" (sp_same 7) := cal_same T 7
end
end Tw

set_option maxHeartbeats 4000000
/-! plans as data: trees of tuples and lists -/
namespace Tw
open PySem PySem.Spec PyProof.Rows L2
inductive Pl where
  | ours (lo hi : Int)
  | wthr (lo hi : Int) (la : Option Int)
  | wthn (n : Int) (p : Pl)
  | many (w : Str) (ps : List Pl)
def Pl.wd : Pl → Str
  | .ours _ _ => "ours"
  | .wthr _ _ _ => "weather"
  | .wthn _ _ => "within"
  | .many w _ => w
def Pl.kids : Pl → List Pl
  | .ours _ _ => []
  | .wthr _ _ _ => []
  | .wthn _ p => [p]
  | .many _ ps => ps
def manyW (w : Str) : Prop := w = "then" ∨ w = "beside" ∨ w = "either"
/-! ### where plans stand -/
mutual
def PlAt (H : Hp) : Pl → V → Prop
  | .ours lo hi, v => ∃ t, v = .ref t ∧ H t = some (.tup [.str "ours", .int lo, .int hi])
  | .wthr lo hi la, v => ∃ t, v = .ref t ∧ H t = some (.tup [.str "weather", .int lo, .int hi, oV la])
  | .wthn n p, v => ∃ t u, v = .ref t ∧ H t = some (.tup [.str "within", .int n, u]) ∧ PlAt H p u
  | .many w ps, v => ∃ t l xs, v = .ref t ∧ H t = some (.tup [.str w, .ref l]) ∧ H l = some (.lst xs) ∧ PlsAt H ps xs
def PlsAt (H : Hp) : List Pl → List V → Prop
  | [], xs => xs = []
  | p :: r, xs => ∃ x ys, xs = x :: ys ∧ PlAt H p x ∧ PlsAt H r ys
end
/-! .. with the places of their lists, each once -/
mutual
def PlF (H : Hp) : Pl → V → List Addr → Prop
  | .ours lo hi, v, ls => ls = [] ∧ ∃ t, v = .ref t ∧ H t = some (.tup [.str "ours", .int lo, .int hi])
  | .wthr lo hi la, v, ls => ls = [] ∧ ∃ t, v = .ref t ∧ H t = some (.tup [.str "weather", .int lo, .int hi, oV la])
  | .wthn n p, v, ls => ∃ t u, v = .ref t ∧ H t = some (.tup [.str "within", .int n, u]) ∧ PlF H p u ls
  | .many w ps, v, ls => ∃ t l xs ms, v = .ref t ∧ H t = some (.tup [.str w, .ref l]) ∧ H l = some (.lst xs) ∧ PlsF H ps xs ms ∧ ls = l :: ms ∧ l ∉ ms
def PlsF (H : Hp) : List Pl → List V → List Addr → Prop
  | [], xs, ls => xs = [] ∧ ls = []
  | p :: r, xs, ls => ∃ x ys ms ns, xs = x :: ys ∧ PlF H p x ms ∧ PlsF H r ys ns ∧ ls = ms ++ ns ∧ ∀ a ∈ ms, a ∉ ns
end
mutual
theorem PlF.at {H : Hp} : ∀ {p : Pl} {v : V} {ls : List Addr}, PlF H p v ls → PlAt H p v
  | .ours _ _, _, _, h => h.2
  | .wthr _ _ _, _, _, h => h.2
  | .wthn _ _, _, _, h => by
    obtain ⟨t, u, h1, h2, h3⟩ := h
    exact ⟨t, u, h1, h2, PlF.at h3⟩
  | .many _ _, _, _, h => by
    obtain ⟨t, l, xs, ms, h1, h2, h3, h4, _⟩ := h
    exact ⟨t, l, xs, h1, h2, h3, PlsF.at h4⟩
theorem PlsF.at {H : Hp} : ∀ {ps : List Pl} {xs : List V} {ls : List Addr}, PlsF H ps xs ls → PlsAt H ps xs
  | [], _, _, h => h.1
  | _ :: _, _, _, h => by
    obtain ⟨x, ys, ms, ns, h1, h2, h3, _⟩ := h
    exact ⟨x, ys, h1, PlF.at h2, PlsF.at h3⟩
end
mutual
theorem PlAt.same {H H' : Hp} (s : Same H H') : ∀ {p : Pl} {v : V}, PlAt H p v → PlAt H' p v
  | .ours _ _, _, h => by
    obtain ⟨t, h1, h2⟩ := h
    exact ⟨t, h1, s _ _ h2⟩
  | .wthr _ _ _, _, h => by
    obtain ⟨t, h1, h2⟩ := h
    exact ⟨t, h1, s _ _ h2⟩
  | .wthn _ _, _, h => by
    obtain ⟨t, u, h1, h2, h3⟩ := h
    exact ⟨t, u, h1, s _ _ h2, PlAt.same s h3⟩
  | .many _ _, _, h => by
    obtain ⟨t, l, xs, h1, h2, h3, h4⟩ := h
    exact ⟨t, l, xs, h1, s _ _ h2, s _ _ h3, PlsAt.same s h4⟩
theorem PlsAt.same {H H' : Hp} (s : Same H H') : ∀ {ps : List Pl} {xs : List V}, PlsAt H ps xs → PlsAt H' ps xs
  | [], _, h => h
  | _ :: _, _, h => by
    obtain ⟨x, ys, h1, h2, h3⟩ := h
    exact ⟨x, ys, h1, PlAt.same s h2, PlsAt.same s h3⟩
end
/-- all stays but at these places -/
def Off (ms : List Addr) (H H' : Hp) : Prop := ∀ b o, H b = some o → b ∉ ms → H' b = some o
theorem Off.of {ms : List Addr} {H H' : Hp} (s : Same H H') : Off ms H H' := fun b o e _ => s b o e
theorem Off.trans {ms : List Addr} {H H1 H2 : Hp} (a : Off ms H H1) (b : Off ms H1 H2) : Off ms H H2 := fun c o e n => b c o (a c o e n) n
theorem Off.mono {ms ns : List Addr} {H H' : Hp} (h : Off ms H H') (s : ∀ a ∈ ms, a ∈ ns) : Off ns H H' := fun b o e n => h b o e fun hm => n (s b hm)
/-- lists stand at these places -/
def Lsts (H : Hp) (ms : List Addr) : Prop := ∀ a ∈ ms, ∃ xs, H a = some (.lst xs)
mutual
theorem PlF.lsts {H : Hp} : ∀ {p : Pl} {v : V} {ls : List Addr}, PlF H p v ls → Lsts H ls
  | .ours _ _, _, _, h => by
    rw [h.1]
    exact fun a ha => nomatch ha
  | .wthr _ _ _, _, _, h => by
    rw [h.1]
    exact fun a ha => nomatch ha
  | .wthn _ _, _, _, h => by
    obtain ⟨t, u, h1, h2, h3⟩ := h
    exact PlF.lsts h3
  | .many _ _, _, _, h => by
    obtain ⟨t, l, xs, ms, h1, h2, h3, h4, rfl, _⟩ := h
    intro a ha
    rcases List.mem_cons.mp ha with rfl | ha
    · exact ⟨_, h3⟩
    · exact PlsF.lsts h4 a ha
theorem PlsF.lsts {H : Hp} : ∀ {ps : List Pl} {xs : List V} {ls : List Addr}, PlsF H ps xs ls → Lsts H ls
  | [], _, _, h => by
    rw [h.2]
    exact fun a ha => nomatch ha
  | _ :: _, _, _, h => by
    obtain ⟨x, ys, ms, ns, h1, h2, h3, rfl, _⟩ := h
    intro a ha
    rcases List.mem_append.mp ha with ha | ha
    · exact PlF.lsts h2 a ha
    · exact PlsF.lsts h3 a ha
end
mutual
theorem PlF.off {H H' : Hp} {ms : List Addr} (o : Off ms H H') (lm : Lsts H ms) : ∀ {p : Pl} {v : V} {ls : List Addr}, PlF H p v ls → (∀ a ∈ ls, a ∉ ms) → PlF H' p v ls
  | .ours _ _, _, _, h, _ => by
    obtain ⟨h0, t, h1, h2⟩ := h
    exact ⟨h0, t, h1, tup_off o lm h2⟩
  | .wthr _ _ _, _, _, h, _ => by
    obtain ⟨h0, t, h1, h2⟩ := h
    exact ⟨h0, t, h1, tup_off o lm h2⟩
  | .wthn _ _, _, _, h, d => by
    obtain ⟨t, u, h1, h2, h3⟩ := h
    exact ⟨t, u, h1, tup_off o lm h2, PlF.off o lm h3 d⟩
  | .many _ _, _, _, h, d => by
    obtain ⟨t, l, xs, ns, h1, h2, h3, h4, rfl, h5⟩ := h
    exact ⟨t, l, xs, ns, h1, tup_off o lm h2, o _ _ h3 (d l List.mem_cons_self), PlsF.off o lm h4 (fun a ha => d a (List.mem_cons_of_mem _ ha)), rfl, h5⟩
theorem PlsF.off {H H' : Hp} {ms : List Addr} (o : Off ms H H') (lm : Lsts H ms) : ∀ {ps : List Pl} {xs : List V} {ls : List Addr}, PlsF H ps xs ls → (∀ a ∈ ls, a ∉ ms) → PlsF H' ps xs ls
  | [], _, _, h, _ => h
  | _ :: _, _, _, h, d => by
    obtain ⟨x, ys, m1, n1, h1, h2, h3, rfl, h4⟩ := h
    exact ⟨x, ys, m1, n1, h1, PlF.off o lm h2 (fun a ha => d a (List.mem_append_left _ ha)), PlsF.off o lm h3 (fun a ha => d a (List.mem_append_right _ ha)), rfl, h4⟩
theorem tup_off {H H' : Hp} {ms : List Addr} (o : Off ms H H') (lm : Lsts H ms) {t : Addr} {xs : List V} (h : H t = some (.tup xs)) : H' t = some (.tup xs) := o _ _ h fun hm => by
  obtain ⟨ys, e⟩ := lm t hm
  rw [h] at e
  cases e
end
theorem PlF.same {H H' : Hp} (s : Same H H') {p : Pl} {v : V} {ls : List Addr} (h : PlF H p v ls) : PlF H' p v ls := PlF.off (ms := []) (Off.of s) (fun a ha => nomatch ha) h fun _ _ z => nomatch z
theorem PlsF.same {H H' : Hp} (s : Same H H') {p : List Pl} {v : List V} {ls : List Addr} (h : PlsF H p v ls) : PlsF H' p v ls := PlsF.off (ms := []) (Off.of s) (fun a ha => nomatch ha) h fun _ _ z => nomatch z
theorem PlsAt.len {H : Hp} : ∀ {ps : List Pl} {xs : List V}, PlsAt H ps xs → xs.length = ps.length
  | [], _, h => by
    have h : _ = [] := h
    rw [h]
    rfl
  | _ :: _, _, h => by
    obtain ⟨x, ys, rfl, _, h3⟩ := h
    rw [List.length_cons, List.length_cons, PlsAt.len h3]
theorem PlsAt.get {H : Hp} : ∀ {ps : List Pl} {xs : List V}, PlsAt H ps xs → ∀ {i : Nat} {x : V} {p : Pl}, xs[i]? = some x → ps[i]? = some p → PlAt H p x
  | [], _, _, _, _, _, _, e => nomatch e
  | q :: r, _, h, i, x, p, ex, ep => by
    obtain ⟨y, ys, rfl, h2, h3⟩ := h
    match i, ex, ep with
    | 0, ex, ep =>
      cases ex
      cases ep
      exact h2
    | i + 1, ex, ep => exact PlsAt.get h3 ex ep
theorem PlsAt.snoc {H : Hp} {p : Pl} {v : V} (hp : PlAt H p v) : ∀ {ps : List Pl} {xs : List V}, PlsAt H ps xs → PlsAt H (ps ++ [p]) (xs ++ [v])
  | [], _, h => by
    have h : _ = [] := h
    rw [h]
    exact ⟨v, [], rfl, hp, rfl⟩
  | _ :: _, _, h => by
    obtain ⟨x, ys, rfl, h2, h3⟩ := h
    exact ⟨x, ys ++ [v], rfl, h2, PlsAt.snoc hp h3⟩
theorem PlsAt.app {H : Hp} {qs : List Pl} {zs : List V} (hq : PlsAt H qs zs) : ∀ {ps : List Pl} {xs : List V}, PlsAt H ps xs → PlsAt H (ps ++ qs) (xs ++ zs)
  | [], _, h => by
    have h : _ = [] := h
    rw [h]
    exact hq
  | _ :: _, _, h => by
    obtain ⟨x, ys, rfl, h2, h3⟩ := h
    exact ⟨x, ys ++ zs, rfl, h2, PlsAt.app hq h3⟩
theorem PlsF.len {H : Hp} {ps : List Pl} {xs : List V} {ls : List Addr} (h : PlsF H ps xs ls) : xs.length = ps.length := h.at.len
theorem PlsF.snoc {H : Hp} {p : Pl} {v : V} {ks : List Addr} (hp : PlF H p v ks) : ∀ {ps : List Pl} {xs : List V} {ls : List Addr}, PlsF H ps xs ls → (∀ a ∈ ls, a ∉ ks) → PlsF H (ps ++ [p]) (xs ++ [v]) (ls ++ ks)
  | [], _, _, h, _ => by
    obtain ⟨rfl, rfl⟩ := h
    exact ⟨v, [], ks, [], rfl, hp, ⟨rfl, rfl⟩, (List.append_nil ks).symm, fun _ _ z => nomatch z⟩
  | _ :: _, _, _, h, d => by
    obtain ⟨x, ys, ms, ns, rfl, h2, h3, rfl, h4⟩ := h
    refine ⟨x, ys ++ [v], ms, ns ++ ks, rfl, h2, PlsF.snoc hp h3 (fun a ha => d a (List.mem_append_right _ ha)), List.append_assoc _ _ _, fun a ha hn => ?_⟩
    rcases List.mem_append.mp hn with hn | hn
    · exact h4 a ha hn
    · exact d a (List.mem_append_left _ ha) hn
theorem PlsF.cons' {H : Hp} {p : Pl} {v : V} {ks : List Addr} {ps : List Pl} {xs : List V} {ls : List Addr} (hp : PlF H p v ks) (h : PlsF H ps xs ls) (d : ∀ a ∈ ks, a ∉ ls) : PlsF H (p :: ps) (v :: xs) (ks ++ ls) := ⟨v, xs, ks, ls, rfl, hp, h, rfl, d⟩
/-! ### counts -/
mutual
def Pl.rc : Pl → Nat
  | .ours _ _ => 1
  | .wthr _ _ _ => 1
  | .wthn _ p => p.rc
  | .many w ps => if w = "either" then rcS ps else rcP ps
def rcS : List Pl → Nat
  | [] => 0
  | p :: r => p.rc + rcS r
def rcP : List Pl → Nat
  | [] => 1
  | p :: r => p.rc * rcP r
end
mutual
def Pl.lc : Pl → Nat
  | .ours _ _ => 1
  | .wthr _ _ _ => 1
  | .wthn _ p => p.lc
  | .many _ ps => lcS ps
def lcS : List Pl → Nat
  | [] => 0
  | p :: r => p.lc + lcS r
end
mutual
def Pl.dp : Pl → Nat
  | .ours _ _ => 1
  | .wthr _ _ _ => 1
  | .wthn _ p => p.dp + 1
  | .many _ ps => dpL ps + 1
def dpL : List Pl → Nat
  | [] => 0
  | p :: r => max p.dp (dpL r)
end
def whI (lo hi i : Int) : Bool := decide (lo ≤ i ∧ i ≤ hi)
def lateB : Option Int → Bool
  | none => true
  | some i => whI 0 1000 i
mutual
/-- numbers in their bounds -/
def Pl.gf : Pl → Bool
  | .ours lo hi => whI 0 1000 lo && whI 0 1000 hi && decide (lo ≤ hi)
  | .wthr lo hi la => whI 1 1000 lo && whI 1 1000 hi && decide (lo ≤ hi) && lateB la
  | .wthn n p => whI 0 1000 n && p.gf
  | .many _ ps => gfL ps
def gfL : List Pl → Bool
  | [] => true
  | p :: r => p.gf && gfL r
end
mutual
/-- words and lengths as they are drawn -/
def Pl.ok : Pl → Prop
  | .ours _ _ => True
  | .wthr _ _ _ => True
  | .wthn _ p => p.ok
  | .many w ps => manyW w ∧ 1 ≤ ps.length ∧ ps.length ≤ 4 ∧ okL ps
def okL : List Pl → Prop
  | [] => True
  | p :: r => p.ok ∧ okL r
end
theorem okL_mem : ∀ {ps : List Pl} {p : Pl}, okL ps → p ∈ ps → p.ok
  | _ :: _, _, h, hm => by
    rcases List.mem_cons.mp hm with rfl | hm
    · exact h.1
    · exact okL_mem h.2 hm
theorem okL_snoc : ∀ {ps : List Pl} {p : Pl}, okL ps → p.ok → okL (ps ++ [p])
  | [], _, _, h => ⟨h, True.intro⟩
  | _ :: _, _, h, h' => ⟨h.1, okL_snoc h.2 h'⟩
theorem dpL_mem : ∀ {ps : List Pl} {p : Pl}, p ∈ ps → p.dp ≤ dpL ps
  | q :: r, _, hm => by
    show _ ≤ max q.dp (dpL r)
    rcases List.mem_cons.mp hm with rfl | hm
    · omega
    · have := dpL_mem hm
      omega
theorem dpL_snoc : ∀ {ps : List Pl} {p : Pl}, dpL (ps ++ [p]) = max (dpL ps) p.dp
  | [], p => by
    show max p.dp 0 = max 0 p.dp
    omega
  | q :: r, p => by
    show max q.dp (dpL (r ++ [p])) = max (max q.dp (dpL r)) p.dp
    rw [dpL_snoc]
    omega
theorem gfL_all : ∀ {ps : List Pl}, gfL ps = ps.all Pl.gf
  | [] => rfl
  | p :: r => by
    show (p.gf && gfL r) = _
    rw [gfL_all, List.all_cons]
theorem rcS_sum : ∀ {ps : List Pl}, (ps.map fun p => (p.rc : Int)).sum = (rcS ps : Int)
  | [] => rfl
  | p :: r => by
    show ((p.rc : Int) :: r.map fun p => (p.rc : Int)).sum = ((p.rc + rcS r : Nat) : Int)
    rw [List.sum_cons, rcS_sum]
    omega
theorem lcS_sum : ∀ {ps : List Pl}, (ps.map fun p => (p.lc : Int)).sum = (lcS ps : Int)
  | [] => rfl
  | p :: r => by
    show ((p.lc : Int) :: r.map fun p => (p.lc : Int)).sum = ((p.lc + lcS r : Nat) : Int)
    rw [List.sum_cons, lcS_sum]
    omega
theorem dp_pos (p : Pl) : 1 ≤ p.dp := by
  cases p with
  | ours a b => exact Nat.le_refl _
  | wthr a b c => exact Nat.le_refl _
  | wthn n p => show 1 ≤ p.dp + 1; omega
  | many w ps => show 1 ≤ dpL ps + 1; omega
theorem dpL_fold : ∀ {ps : List Pl} {n : Nat}, (ps.map fun p => (p.dp : Int)).foldl max (n : Int) = (max n (dpL ps) : Nat)
  | [], n => by
    show (n : Int) = ((max n 0 : Nat) : Int)
    omega
  | p :: r, n => by
    show (r.map fun p => (p.dp : Int)).foldl max (max (n : Int) (p.dp : Int)) = _
    rw [show max (n : Int) (p.dp : Int) = ((max n p.dp : Nat) : Int) by omega, dpL_fold]
    show ((max (max n p.dp) (dpL r) : Nat) : Int) = ((max n (max p.dp (dpL r)) : Nat) : Int)
    omega
/-! ### max(xs, default=d) of a list of ints -/
def rMaxDf (K : PySem.W.Frag) : List V → List V → Hp → VK → Prop := fun vs zs H Q => ∃ (a : Addr) (ns : List Int) (d : Int), vs = [V.ref a] ∧ zs = [.int d] ∧ SqL K H a (ns.map V.int) ∧ (ns = [] → Q (.int d) H) ∧ ∀ y ys, ns = y :: ys → Q (.int (ys.foldl max y)) H
theorem readsInts {h : Heap} : ∀ {its : List Value} {ns : List Int}, IntsAre its ns → ReadsAll h its (ns.map PyData.int) []
  | _, _, .nil => .nil
  | _, _, .cons n t r => .cons (as := []) (bs := []) (.int n t) (readsInts r)
theorem depth_ints : ∀ {ns : List Int}, PyData.depthAll (ns.map PyData.int) ≤ 1
  | [] => by decide
  | n :: r => by
    show max (PyData.depth (.int n)) (PyData.depthAll (r.map PyData.int)) ≤ 1
    have := depth_ints (ns := r)
    have h1 : PyData.depth (.int n) ≤ 1 := by simp [PyData.depth]
    omega
theorem cr_maxDf {X : Cx} (hc : X.calm = true) (hu : X.A.units + 64 < cLine) : CallRK X (.builtin "max") [Str.ofString "default"] (rMaxDf X.K) := by
  intro pins s σ H xs zs us ws Q I r r2 h
  obtain ⟨a, ns, d, rfl, rfl, hs, h0, h1⟩ := h
  obtain ⟨its, rv, hl, _⟩ := I.list hs
  rw [Vals.ref1 r]
  cases r2 with
  | cons e2 t2 =>
    cases t2
    obtain ⟨t, rfl⟩ := e2
    have al : PySem.W.AlikeAll (ns.map PyData.int) := by
      refine ⟨fun x hx y hy => ?_, fun x hx => ?_⟩
      · obtain ⟨i, _, rfl⟩ := List.mem_map.mp hx
        obtain ⟨j, _, rfl⟩ := List.mem_map.mp hy
        rfl
      · obtain ⟨i, _, rfl⟩ := List.mem_map.mp hx
        intro z
        cases z
    have dp := depth_ints (ns := ns)
    refine PySem.W.max_list_default (I.ok.hd hc) hl.isList (readsInts rv.ints) al (by omega) (fun e h' tk hk => ?_) (fun y ys i v h' tk bs e hv rd hk => ?_)
    · exact ⟨.int d, H, I.kept hk, ⟨_, rfl⟩, h0 (List.map_eq_nil_iff.mp e)⟩
    · match ns, e with
      | n :: r, e =>
        injection e with e1 e2
        subst e1 e2
        rw [PySem.W.maxD_ints] at rd
        cases rd
        exact ⟨.int _, H, I.kept hk, ⟨_, rfl⟩, h1 n r rfl⟩
/-! ### xs == [], x *= y -/
def rEqNil (K : PySem.W.Frag) : R2 := fun x y H Q => ∃ a b xs, x = .ref a ∧ y = .ref b ∧ SqL K H a xs ∧ SqL K H b [] ∧ Q (.bl xs.isEmpty) H
theorem op_eqNil {X : Cx} (hu : X.A.units + 1 < cLine) : OpR X (compareOp .Eq) (rEqNil X.K) := by
  intro pins s σ H x y v u Q I rx ry h
  obtain ⟨a, b, xs, rfl, rfl, ha, hb, q⟩ := h
  cases rx
  cases ry
  obtain ⟨its, r1, l1, _⟩ := I.list ha
  obtain ⟨its2, r2, l2, _⟩ := I.list hb
  cases r2
  have le := r1.length
  match xs, its, r1, le, l1, q with
  | [], [], _, _, l1, q =>
    exact SeqAt.eq_listAt (e := fun _ => true) l1.isList l2.isList rfl (by omega) (fun j h1 _ => absurd h1 (Nat.not_lt_zero _)) ⟨.bl true, H, I, rfl, q⟩
  | _ :: _, _ :: _, _, _, l1, q =>
    refine SeqAt.eq_list_lengthsAt l1.isList l2.isList ?_ (by omega) ⟨.bl false, H, I, rfl, q⟩
    simp
  | [], _ :: _, _, le, _, _ => cases le
  | _ :: _, [], _, le, _, _ => cases le
def ipM : TIp := fun x y H Q => ∃ i j, x = .int i ∧ y = .int j ∧ CMul i j ∧ Q (.int (i * j)) H
theorem ip_mul {X : Cx} : PIp X .Mult ipM := by
  intro pins s σ H x y v u Q I r1 r2 h
  obtain ⟨i, j, rfl, rfl, c, q⟩ := h
  obtain ⟨t, rfl⟩ := r1
  obtain ⟨t', rfl⟩ := r2
  exact PyProof.Rows.imul_int ⟨.int _, H, I.tok _, ⟨_, rfl⟩, q⟩ c.ok
theorem bb_sum : bootBuiltins "sum" = some (.builtin "sum") := by decide +kernel
theorem bb_divmod : bootBuiltins "divmod" = some (.builtin "divmod") := by decide +kernel
theorem bb_max : bootBuiltins "max" = some (.builtin "max") := by decide +kernel
/-! ### readings are few where leaves are -/
theorem two_pow {a b : Nat} (ha : 1 ≤ a) (hb : 1 ≤ b) : 2 ^ a + 2 ^ b ≤ 2 ^ (a + b) := by
  obtain ⟨a', rfl⟩ : ∃ a', a = a' + 1 := ⟨a - 1, by omega⟩
  obtain ⟨b', rfl⟩ : ∃ b', b = b' + 1 := ⟨b - 1, by omega⟩
  rw [Nat.pow_add (2 : Nat) (a' + 1) (b' + 1), show (2 : Nat) ^ (a' + 1) = 2 ^ a' * 2 from Nat.pow_succ _ _, show (2 : Nat) ^ (b' + 1) = 2 ^ b' * 2 from Nat.pow_succ _ _]
  have h1 : 1 ≤ 2 ^ a' := Nat.one_le_two_pow
  have h2 : 1 ≤ 2 ^ b' := Nat.one_le_two_pow
  generalize 2 ^ a' = x at h1 ⊢
  generalize 2 ^ b' = y at h2 ⊢
  obtain ⟨x', rfl⟩ : ∃ x', x = x' + 1 := ⟨x - 1, by omega⟩
  obtain ⟨y', rfl⟩ : ∃ y', y = y' + 1 := ⟨y - 1, by omega⟩
  have e : (x' + 1) * 2 * ((y' + 1) * 2) = 4 * (x' * y') + 4 * x' + 4 * y' + 4 := by
    simp only [Nat.add_mul, Nat.mul_add, Nat.one_mul, Nat.mul_one]
    have : x' * 2 * (y' * 2) = 4 * (x' * y') := by
      rw [Nat.mul_assoc, Nat.mul_comm y' 2, ← Nat.mul_assoc 2, Nat.mul_left_comm]
    omega
  omega
mutual
theorem rc_le : ∀ {p : Pl}, p.ok → p.rc ≤ 2 ^ p.lc ∧ 1 ≤ p.lc
  | .ours _ _, _ => ⟨by show 1 ≤ 2 ^ 1; decide, Nat.le_refl _⟩
  | .wthr _ _ _, _ => ⟨by show 1 ≤ 2 ^ 1; decide, Nat.le_refl _⟩
  | .wthn _ p, h => rc_le (p := p) h
  | .many w ps, h => by
    obtain ⟨h1, h2, h3⟩ := rcL_le (ps := ps) h.2.2.2
    have h4 := h.2.1
    refine ⟨?_, by show 1 ≤ lcS ps; omega⟩
    show (if w = "either" then rcS ps else rcP ps) ≤ 2 ^ lcS ps
    by_cases c : w = "either"
    · rw [if_pos c]
      exact h1
    · rw [if_neg c]
      exact h2
theorem rcL_le : ∀ {ps : List Pl}, okL ps → rcS ps ≤ 2 ^ lcS ps ∧ rcP ps ≤ 2 ^ lcS ps ∧ ps.length ≤ lcS ps
  | [], _ => ⟨by show 0 ≤ 1; decide, by show 1 ≤ 1; decide, Nat.le_refl _⟩
  | p :: r, h => by
    obtain ⟨a1, a2⟩ := rc_le (p := p) h.1
    obtain ⟨b1, b2, b3⟩ := rcL_le (ps := r) h.2
    refine ⟨?_, ?_, by show r.length + 1 ≤ p.lc + lcS r; omega⟩
    · show p.rc + rcS r ≤ 2 ^ (p.lc + lcS r)
      match r, b1, b3 with
      | [], _, _ =>
        show p.rc + 0 ≤ 2 ^ (p.lc + 0)
        omega
      | q :: r', b1, b3 =>
        have b3 : r'.length + 1 ≤ lcS (q :: r') := b3
        have := two_pow a2 (show 1 ≤ lcS (q :: r') by omega)
        omega
    · show p.rc * rcP r ≤ 2 ^ (p.lc + lcS r)
      rw [Nat.pow_add]
      exact Nat.mul_le_mul a1 b2
end
theorem rcP_app : ∀ {ps qs : List Pl}, rcP (ps ++ qs) = rcP ps * rcP qs
  | [], qs => by
    show rcP qs = 1 * rcP qs
    omega
  | p :: r, qs => by
    show p.rc * rcP (r ++ qs) = p.rc * rcP r * rcP qs
    rw [rcP_app, Nat.mul_assoc]
theorem rcP_one {p : Pl} : rcP [p] = p.rc := Nat.mul_one _
theorem lcS_app : ∀ {ps qs : List Pl}, lcS (ps ++ qs) = lcS ps + lcS qs
  | [], qs => by
    show lcS qs = 0 + lcS qs
    omega
  | p :: r, qs => by
    show p.lc + lcS (r ++ qs) = p.lc + lcS r + lcS qs
    rw [lcS_app, Nat.add_assoc]
theorem lcS_mem : ∀ {ps : List Pl} {p : Pl}, p ∈ ps → p.lc ≤ lcS ps
  | q :: r, _, hm => by
    show _ ≤ q.lc + lcS r
    rcases List.mem_cons.mp hm with rfl | hm
    · omega
    · have := lcS_mem hm
      omega
theorem okL_take : ∀ {ps : List Pl} {n : Nat}, okL ps → okL (ps.take n)
  | _, 0, _ => True.intro
  | [], _ + 1, _ => True.intro
  | _ :: _, _ + 1, h => ⟨h.1, okL_take h.2⟩
/-! ### the readings -/
/-- one of each, the first changing last -/
def rowsOf (ws : List (List Pl)) : List (List Pl) := ws.foldl (fun rows w => rows.flatMap fun r => w.map fun x => r ++ [x]) [[]]
mutual
def Pl.ways : Pl → List Pl
  | .ours a b => [.ours a b]
  | .wthr a b c => [.wthr a b c]
  | .wthn n p => p.ways.map (.wthn n)
  | .many w ps => if w = "either" then (wayL ps).flatten else (rowsOf (wayL ps)).map (.many w)
def wayL : List Pl → List (List Pl)
  | [] => []
  | p :: r => p.ways :: wayL r
end
theorem rows_snoc {ws : List (List Pl)} {w : List Pl} : rowsOf (ws ++ [w]) = (rowsOf ws).flatMap fun r => w.map fun x => r ++ [x] := by
  unfold rowsOf
  rw [List.foldl_append]
  rfl
theorem wayL_eq : ∀ {ps : List Pl}, wayL ps = ps.map Pl.ways
  | [] => rfl
  | p :: r => by
    show p.ways :: wayL r = _
    rw [wayL_eq]
    rfl
theorem wayL_app {ps qs : List Pl} : wayL (ps ++ qs) = wayL ps ++ wayL qs := by
  rw [wayL_eq, wayL_eq, wayL_eq, List.map_append]
theorem flat_len {α β γ : Type} {w : List β} {f : α → β → γ} : ∀ {L : List α}, (L.flatMap fun r => w.map (f r)).length = L.length * w.length
  | [] => by simp
  | x :: r => by
    rw [List.flatMap_cons, List.length_append, flat_len, List.length_map, List.length_cons, Nat.succ_mul, Nat.add_comm]
theorem flat_at {α β γ : Type} {w : List β} {f : α → β → γ} (hw : 0 < w.length) : ∀ {L : List α} {i : Nat}, i < L.length * w.length → ∃ a b, L[i / w.length]? = some a ∧ w[i % w.length]? = some b ∧ (L.flatMap fun r => w.map (f r))[i]? = some (f a b)
  | [], i, h => by simp at h
  | x :: r, i, h => by
    rw [List.flatMap_cons]
    by_cases c : i < w.length
    · obtain ⟨b, hb⟩ : ∃ b, w[i]? = some b := ⟨_, List.getElem?_eq_getElem c⟩
      refine ⟨x, b, by rw [Nat.div_eq_of_lt c]; rfl, by rw [Nat.mod_eq_of_lt c]; exact hb, ?_⟩
      rw [List.getElem?_append_left (by rw [List.length_map]; exact c), List.getElem?_map, hb]
      rfl
    · have h' : i - w.length < r.length * w.length := by
        rw [List.length_cons, Nat.succ_mul] at h
        omega
      obtain ⟨a, b, h1, h2, h3⟩ := flat_at hw (L := r) (i := i - w.length) h'
      have e1 : i / w.length = (i - w.length) / w.length + 1 := by
        rw [Nat.div_eq_sub_div hw (by omega)]
      have e2 : i % w.length = (i - w.length) % w.length := by
        rw [Nat.mod_eq_sub_mod (by omega)]
      refine ⟨a, b, by rw [e1]; exact h1, by rw [e2]; exact h2, ?_⟩
      rw [List.getElem?_append_right (by rw [List.length_map]; omega), List.length_map]
      exact h3
mutual
theorem ways_len : ∀ {p : Pl}, p.ways.length = p.rc
  | .ours _ _ => rfl
  | .wthr _ _ _ => rfl
  | .wthn n p => by
    show (p.ways.map (Pl.wthn n)).length = p.rc
    rw [List.length_map, ways_len]
  | .many w ps => by
    obtain ⟨h1, h2⟩ := wayL_len (ps := ps)
    show (if w = "either" then (wayL ps).flatten else (rowsOf (wayL ps)).map (Pl.many w)).length = if w = "either" then rcS ps else rcP ps
    by_cases c : w = "either"
    · rw [if_pos c, if_pos c]
      exact h1
    · rw [if_neg c, if_neg c, List.length_map]
      have h := h2 (acc := [[]])
      rw [show ([[]] : List (List Pl)).length = 1 from rfl, Nat.one_mul] at h
      exact h
theorem wayL_len : ∀ {ps : List Pl}, (wayL ps).flatten.length = rcS ps ∧ ∀ {acc : List (List Pl)}, ((wayL ps).foldl (fun rows w => rows.flatMap fun r => w.map fun x => r ++ [x]) acc).length = acc.length * rcP ps
  | [] => ⟨rfl, fun {acc} => (Nat.mul_one _).symm⟩
  | p :: r => by
    obtain ⟨h1, h2⟩ := wayL_len (ps := r)
    refine ⟨?_, fun {acc} => ?_⟩
    · show (p.ways :: wayL r).flatten.length = p.rc + rcS r
      rw [List.flatten_cons, List.length_append, h1, ways_len]
    · show ((p.ways :: wayL r).foldl _ acc).length = acc.length * (p.rc * rcP r)
      rw [List.foldl_cons, h2, flat_len, ways_len, Nat.mul_assoc]
end
theorem rows_len {ps : List Pl} : (rowsOf (wayL ps)).length = rcP ps := by
  have h := (wayL_len (ps := ps)).2 (acc := [[]])
  rw [show ([[]] : List (List Pl)).length = 1 from rfl, Nat.one_mul] at h
  exact h
/-- the last one's place is what is left over -/
theorem rows_at' {ps : List Pl} {m : Nat} {c : Pl} {i : Nat} {row : List Pl} (ec : ps[m]? = some c) (pos : 0 < c.rc) (h : (rowsOf (wayL (ps.take (m + 1))))[i]? = some row) : ∃ r0 x, (rowsOf (wayL (ps.take m)))[i / c.rc]? = some r0 ∧ c.ways[i % c.rc]? = some x ∧ row = r0 ++ [x] := by
  have e : ps.take (m + 1) = ps.take m ++ [c] := by rw [List.take_add_one, ec]; rfl
  have hi := (List.getElem?_eq_some_iff.mp h).1
  rw [e, wayL_app, show wayL [c] = [c.ways] from rfl, rows_snoc] at h hi
  rw [flat_len] at hi
  have hl : c.ways.length = c.rc := ways_len
  obtain ⟨a, b, h1, h2, h3⟩ := flat_at (f := fun (r : List Pl) (x : Pl) => r ++ [x]) (w := c.ways) (by omega) hi
  rw [hl] at h1 h2
  rw [h3] at h
  cases h
  exact ⟨a, b, h1, h2, rfl⟩
theorem rc_pos : ∀ {p : Pl} {i : Nat} {q : Pl}, p.ways[i]? = some q → 0 < p.rc := fun {p i q} h => by
  have := (List.getElem?_eq_some_iff.mp h).1
  rw [ways_len] at this
  omega
end Tw

set_option maxHeartbeats 4000000
namespace Tw
open PySem PySem.Spec PyProof.Rows L2
/-! tuples joined and cut: what stands at the told place -/
def rCatU : R2 := fun x y H Q => ∃ a b xs ys, x = .ref a ∧ y = .ref b ∧ H a = some (.tup xs) ∧ H b = some (.tup ys) ∧ xs.length + ys.length ≤ sizeLine ∧ ∀ p H', Same H H' → H' p = some (.tup (xs ++ ys)) → Q (.ref p) H'
theorem op_catU {X : Cx} : OpR X (binaryOp .Add) rCatU := by
  intro pins s σ H x y v u Q I rx ry h
  obtain ⟨a, b, xs, ys, rfl, rfl, ha, hb, hl, q⟩ := h
  refine op_catA pins s σ H _ _ v u Q I rx ry ⟨a, b, xs, ys, rfl, rfl, .inl (.inl ha), .inl (.inl hb), hl, fun e => ?_, fun _ e => ?_, fun _ _ p np => q p _ (same_upd np) upd_same⟩
  · exact q b H (Same.refl H) (by rw [hb, e]; rfl)
  · exact q a H (Same.refl H) (by rw [ha, e, List.append_nil])
def rSlU : V → Option Int → Option Int → Hp → VK → Prop := fun x lo hi H Q => ∃ a xs, x = .ref a ∧ H a = some (.tup xs) ∧ ∀ p H', Same H H' → H' p = some (.tup (cutV xs lo hi)) → Q (.ref p) H'
theorem sl_tupU {X : Cx} : SlR X rSlU := by
  intro pins s σ H x v vl vu lo hi sl Q I rx hs pl pu h
  obtain ⟨a, xs, rfl, ha, q⟩ := h
  refine sl_tupA pins s σ H _ v vl vu lo hi sl Q I rx hs pl pu ⟨a, xs, rfl, .inl (.inl ha), fun e => ?_, fun _ p np => q p _ (same_upd np) upd_same⟩
  refine q a H (Same.refl H) ?_
  rw [ha]
  unfold cutV
  rw [e.1, e.2, List.drop_zero, Nat.sub_zero, List.take_length]
end Tw

set_option maxHeartbeats 4000000
namespace Tw
open PySem PySem.Spec PyProof.Rows L2
/-! plans.py: inner_plans, the counts, is_made of good plans, need_plan -/
section
variable {P : Program} {w : World} {K : PySem.W.Frag} {mg : Str → Option Value} {base : Heap}
/-- what a plan's tuple is, and where its kids stand -/
theorem PlAt.tup {H : Hp} {p : Pl} {v : V} (h : PlAt H p v) : ∃ t r, v = .ref t ∧ H t = some (.tup (.str p.wd :: r)) := by
  cases p with
  | ours a b =>
    obtain ⟨t, h1, h2⟩ := h
    exact ⟨t, _, h1, h2⟩
  | wthr a b c =>
    obtain ⟨t, h1, h2⟩ := h
    exact ⟨t, _, h1, h2⟩
  | wthn n p =>
    obtain ⟨t, u, h1, h2, _⟩ := h
    exact ⟨t, _, h1, h2⟩
  | many w ps =>
    obtain ⟨t, l, xs, h1, h2, _⟩ := h
    exact ⟨t, _, h1, h2⟩
theorem many_no {w : Str} (h : manyW w) : ¬ w = "ours" ∧ ¬ w = "weather" ∧ ¬ w = "within" := by
  rcases h with rfl | rfl | rfl <;> decide +kernel
/-- one of two words -/
theorem two_in {z a b : Str} : inV (.str z) [.str a, .str b] = decide (z = a ∨ z = b) := by
  have := in_strs z [a, b]
  rw [show ([.str a, .str b] : List V) = [a, b].map V.str from rfl, this]
  simp
def leafW (p : Pl) : Bool := decide (p.wd = "ours" ∨ p.wd = "weather")
theorem leaf_ours {a b : Int} : leafW (.ours a b) = true := decide_eq_true (.inl rfl)
theorem leaf_wthr {a b : Int} {c : Option Int} : leafW (.wthr a b c) = true := decide_eq_true (.inr rfl)
theorem leaf_wthn {n : Int} {p : Pl} : leafW (.wthn n p) = false := decide_eq_false (show ¬ (("within" : Str) = "ours" ∨ ("within" : Str) = "weather") by decide +kernel)
theorem leaf_many {w : Str} {ps : List Pl} (h : manyW w) : leafW (.many w ps) = false := by
  have := many_no h
  exact decide_eq_false (by rintro (h | h); exact this.1 h; exact this.2.1 h)
/-- a list of a plan's kids -/
def KidsAt (H : Hp) (D : Addr) (p : Pl) : Prop := ∃ xs, H D = some (.lst xs) ∧ PlsAt H p.kids xs
theorem KidsAt.same {H H' : Hp} {D : Addr} {p : Pl} (h : KidsAt H D p) (s : Same H H') : KidsAt H' D p := by
  obtain ⟨xs, h1, h2⟩ := h
  exact ⟨xs, s _ _ h1, h2.same s⟩
/-! ### inner_plans -/
def sp_inner : Sp := fun vs H Q _ => ∃ (v : V) (p : Pl), vs = [v] ∧ PlAt H p v ∧ p.ok ∧ ∀ (D : Addr) (H' : Hp), Same H H' → H D = none → KidsAt H' D p → Q (.ref D) H'
theorem cal_inner_plans (T : Tp K mg) : Cal P w K mg base 1 "inner_plans" sp_inner := by
  obtain ⟨fd, F⟩ := f_inner_plans T
  refine cal_of F (g_inner_plans T) (b_inner_plans F) sc_inner_plans (fun vs H Q E h => ?_) (fun cdv A outer s H vs Q E hr h => ?_)
  · obtain ⟨v, p, rfl, _⟩ := h
    rfl
  · obtain ⟨v, p, rfl, hp, ok, q⟩ := h
    obtain ⟨t, r, rfl, ht⟩ := hp.tup
    refine ⟨_, (pss_cons (ps_if (pt_cmpR op_in_seq (pe_ix ix_tup (pv 0) pe_int (fun _ _ => rfl)) (pe_tup (pa_cons pe_str (pa_cons pe_str pa_nil))) (by rfl)) (pss_one (ps_ret (pe_lst pa_nil))) pss_nil)
      (pss_one (ps_ret (pe_ifExp (pt_cmpR op_eq (pe_ix ix_tup (pv 0) pe_int (fun _ _ => rfl)) pe_str (nomark _)) (pe_lst (pa_cons (pe_ix ix_tup (pv 0) pe_int (fun _ _ => rfl)) pa_nil)) (pe_callTy call_list_of (by rfl) (z_list T) bb_list (pa_cons (pe_ix ix_tup (pv 0) pe_int (fun _ _ => rfl)) pa_nil)))))), ?_⟩
    refine ⟨_, rfl, t, _, 0, .str p.wd, rfl, rfl, .inl (.inl ht), atI_nat (j := 0) rfl, (by show 2 ≤ sizeLine; decide), fun g ng => ?_⟩
    have sg := same_upd (o := .tup [.str "ours", .str "weather"]) ng
    have ht1 := sg _ _ ht
    have hp1 := hp.same sg
    refine ⟨g, [.str "ours", .str "weather"], rfl, .inr (.inl (.inl upd_same)), rfl, rfl, _, rfl, ?_⟩
    show if inV (.str p.wd) [.str "ours", .str "weather"] = true then _ else _
    rw [two_in, show decide (p.wd = "ours" ∨ p.wd = "weather") = leafW p from rfl]
    generalize upd H g (.tup [.str "ours", .str "weather"]) = H1 at sg ht1 hp1 ⊢
    cases p with
    | ours a b =>
      rw [leaf_ours]
      exact iteT ⟨Nat.zero_le _, fun D nD => q D _ (sg.trans (same_upd nD)) (sg.free nD) ⟨[], upd_same, rfl⟩⟩
    | wthr a b c =>
      rw [leaf_wthr]
      exact iteT ⟨Nat.zero_le _, fun D nD => q D _ (sg.trans (same_upd nD)) (sg.free nD) ⟨[], upd_same, rfl⟩⟩
    | wthn n p =>
      obtain ⟨t', u, e1, h2, h3⟩ := hp1
      cases e1
      rw [h2] at ht1
      rw [leaf_wthn]
      refine iteF ⟨_, rfl, t, _, 0, .str "within", rfl, rfl, .inl (.inl h2), atI_nat (j := 0) rfl, rfl, _, rfl, iteT ⟨_, rfl, t, _, 2, u, rfl, rfl, .inl (.inl h2), atI_nat (j := 2) rfl, (by show 1 ≤ sizeLine; decide), fun D nD => ?_⟩⟩
      have sD := same_upd (o := .lst [u]) nD
      exact q D _ (sg.trans sD) (sg.free nD) ⟨[u], upd_same, u, [], rfl, h3.same sD, rfl⟩
    | many w ps =>
      obtain ⟨t', l, xs, e1, h2, h3, h4⟩ := hp1
      cases e1
      have no := many_no ok.1
      rw [leaf_many ok.1]
      refine iteF ⟨_, rfl, t, _, 0, .str w, rfl, rfl, .inl (.inl h2), atI_nat (j := 0) rfl, rfl, _, rfl, ?_⟩
      rw [decide_eq_false (show ¬ V.str w = V.str "within" from fun e => no.2.2 (V.str.inj e))]
      refine iteF ⟨_, rfl, t, _, 1, .ref l, rfl, rfl, .inl (.inl h2), atI_nat (j := 1) rfl, l, xs, rfl, .inl (.inl (.inl h3)), fun D nD => ?_⟩
      have sD := same_upd (o := .lst xs) nD
      exact q D _ (sg.trans sD) (sg.free nD) ⟨xs, upd_same, h4.same sD⟩
/-! ### part_count -/
theorem kids_dp {p q : Pl} {n : Nat} (h : p.dp ≤ n + 1) (hq : q ∈ p.kids) : q.dp ≤ n := by
  cases p with
  | ours a b => cases hq
  | wthr a b c => cases hq
  | wthn m p =>
    have h : p.dp + 1 ≤ n + 1 := h
    rw [List.mem_singleton.mp hq]
    omega
  | many w ps =>
    have h : dpL ps + 1 ≤ n + 1 := h
    have := dpL_mem (show q ∈ ps from hq)
    omega
theorem kids_ok {p q : Pl} (h : p.ok) (hq : q ∈ p.kids) : q.ok := by
  cases p with
  | ours a b => cases hq
  | wthr a b c => cases hq
  | wthn m p =>
    rw [List.mem_singleton.mp hq]
    exact h
  | many w ps => exact okL_mem h.2.2.2 hq
theorem kids_len {p : Pl} (h : p.ok) : p.kids.length ≤ 4 := by
  cases p with
  | ours a b => show 0 ≤ 4; decide
  | wthr a b c => show 0 ≤ 4; decide
  | wthn m p => show 1 ≤ 4; decide
  | many w ps => exact h.2.2.1
theorem lc_kids {p : Pl} (h : leafW p = false) : p.lc = lcS p.kids := by
  cases p with
  | ours a b => cases h
  | wthr a b c => cases h
  | wthn m p =>
    show p.lc = p.lc + 0
    omega
  | many w ps => rfl
def sp_pcount (n : Nat) : Sp := fun vs H Q _ => ∃ (v : V) (p : Pl), vs = [v] ∧ PlAt H p v ∧ p.ok ∧ p.dp ≤ n ∧ ∀ (H' : Hp), Same H H' → Q (.int (p.lc : Nat)) H'
theorem cal_pcount (T : Tp K mg) : ∀ n : Nat, Cal P w K mg base (n + 1) "part_count" (sp_pcount n)
  | 0 => by
    obtain ⟨fd, F⟩ := f_part_count T
    refine cal_of F (g_part_count T) (b_part_count F) sc_part_count (fun vs H Q E h => ?_) (fun cdv A outer s H vs Q E hr h => ?_)
    · obtain ⟨v, p, rfl, _⟩ := h
      rfl
    · obtain ⟨v, p, _, _, _, d, _⟩ := h
      have := dp_pos p
      omega
  | n + 1 => by
    have ih := cal_pcount T n
    obtain ⟨fd, F⟩ := f_part_count T
    refine cal_of F (g_part_count T) (b_part_count F) sc_part_count (fun vs H Q E h => ?_) (fun cdv A outer s H vs Q E hr h => ?_)
    · obtain ⟨v, p, rfl, _⟩ := h
      rfl
    · obtain ⟨v, p, rfl, hp, ok, d, q⟩ := h
      obtain ⟨t, r, rfl, ht⟩ := hp.tup
      refine ⟨_, (pss_cons (ps_if (pt_cmpR op_in_seq (pe_ix ix_tup (pv 0) pe_int (fun _ _ => rfl)) (pe_tup (pa_cons pe_str (pa_cons pe_str pa_nil))) (by rfl)) (pss_one (ps_ret pe_int)) pss_nil)
      (pss_one (ps_ret (pe_callB (cr_sum rfl) (by rfl) (z_sum T) bb_sum (pa_cons (pe_lc (own := [("part", 1)]) (g := gName 1) (tt := tYes) rfl sc_part_count.nd (pi_list (C8.pe_c (cal_inner_plans T) hr (by omega) rfl (pa_cons (pv 0) pa_nil))) (blkOk_by (N := N_part_count) (sc := defScope s_part_count) (by decide +kernel)) (fun _ _ _ _ _ => (pg_name (i := 1) sc_part_count.nd rfl (.inl rfl))) (fun _ _ _ _ _ => pts_nil) (fun _ _ _ _ _ => (C8.pe_c ih hr (Nat.le_refl _) rfl (pa_cons (pv 1) pa_nil)))) pa_nil))))), ?_⟩
      refine ⟨_, rfl, t, _, 0, .str p.wd, rfl, rfl, .inl (.inl ht), atI_nat (j := 0) rfl, (by show 2 ≤ sizeLine; decide), fun g ng => ?_⟩
      have sg := same_upd (o := .tup [.str "ours", .str "weather"]) ng
      refine ⟨g, [.str "ours", .str "weather"], rfl, .inr (.inl (.inl upd_same)), rfl, rfl, _, rfl, ?_⟩
      show if inV (.str p.wd) [.str "ours", .str "weather"] = true then _ else _
      rw [two_in]
      have hp1 := hp.same sg
      generalize upd H g (.tup [.str "ours", .str "weather"]) = H1 at sg hp1 ⊢
      cases e : leafW p with
      | true =>
        rw [show decide (p.wd = "ours" ∨ p.wd = "weather") = true from e]
        have el : p.lc = 1 := by
          cases p with
          | ours a b => rfl
          | wthr a b c => rfl
          | wthn n p =>
            rw [leaf_wthn] at e
            cases e
          | many w ps =>
            rw [leaf_many ok.1] at e
            cases e
        have h := q H1 sg
        rw [el] at h
        exact iteT h
      | false =>
        rw [show decide (p.wd = "ours" ∨ p.wd = "weather") = false from e]
        refine iteF ⟨_, rfl, _, p, rfl, hp1, ok, fun L H2 s2 nL ⟨xs, hL, KL⟩ => ⟨L, rfl, ⟨_, .inl (.inl hL)⟩, fun D nD => ?_⟩⟩
        have s12 := sg.trans s2
        have lk := kids_len ok
        refine lc_pure p.kids (walk_listN KL.len) (fun c => some (c.lc : Int)) (SV V.int) (fun _ h => h) nD (by omega) (fun H s => .inl (.inl (s _ _ hL))) ?_ ?_
        · rintro i c x H3 _ ec s3 ⟨rfl, hv⟩ Good Bad kt kf
          have hc := KL.get hv ec
          have hm := List.mem_of_getElem? ec
          exact ⟨rfl, yes_i (iteT ⟨_, rfl, x, c, rfl, hc.same s3, kids_ok ok hm, kids_dp d hm, fun H4 s4 => kt _ _ _ rfl s4 rfl⟩)⟩
        · intro H3 acc s3 d3 p3
          have ea := paired_enc p3
          rw [show (p.kids.filterMap fun c => some (c.lc : Int)) = p.kids.map fun c => (c.lc : Int) from List.filterMap_eq_map ▸ rfl] at ea
          subst ea
          refine ⟨D, _, rfl, .inl (.inl d3), ?_⟩
          have h := q H3 (s12.trans s3)
          rw [lc_kids e, ← lcS_sum] at h
          exact h
/-! ### reading_count -/
theorem rc_either {p : Pl} (h : p.wd = "either") (ok : p.ok) : p.rc = rcS p.kids := by
  cases p with
  | ours a b => exact absurd h (by show ¬ ("ours" : Str) = "either"; decide +kernel)
  | wthr a b c => exact absurd h (by show ¬ ("weather" : Str) = "either"; decide +kernel)
  | wthn n p => exact absurd h (by show ¬ ("within" : Str) = "either"; decide +kernel)
  | many w ps =>
    have h : w = "either" := h
    show (if w = "either" then _ else _) = _
    rw [if_pos h]
    rfl
theorem rc_prod {p : Pl} (h : ¬ p.wd = "either") : p.rc = rcP p.kids := by
  cases p with
  | ours a b => rfl
  | wthr a b c => rfl
  | wthn n p =>
    show p.rc = p.rc * 1
    omega
  | many w ps =>
    have h : ¬ w = "either" := h
    show (if w = "either" then _ else _) = _
    rw [if_neg h]
    rfl
theorem kids_lc {p q : Pl} (ok : p.ok) (h : p.lc ≤ 12) (hq : q ∈ p.kids) : q.lc ≤ 12 := by
  cases p with
  | ours a b => cases hq
  | wthr a b c => cases hq
  | wthn m p =>
    rw [List.mem_singleton.mp hq]
    exact h
  | many w ps =>
    have h : lcS ps ≤ 12 := h
    have := lcS_mem (show q ∈ ps from hq)
    omega
theorem pow12 {n : Nat} (h : n ≤ 12) : 2 ^ n ≤ 4096 := Nat.pow_le_pow_right (n := 2) (by decide) h
theorem rc_12 {p : Pl} (ok : p.ok) (h : p.lc ≤ 12) : p.rc ≤ 4096 := Nat.le_trans (rc_le ok).1 (pow12 h)
theorem okL_kids {p : Pl} (h : p.ok) : okL p.kids := by
  cases p with
  | ours a b => exact True.intro
  | wthr a b c => exact True.intro
  | wthn m p => exact ⟨h, True.intro⟩
  | many w ps => exact h.2.2.2
theorem lcS_kids {p : Pl} (h : p.lc ≤ 12) : lcS p.kids ≤ 12 := by
  cases p with
  | ours a b => show 0 ≤ 12; decide
  | wthr a b c => show 0 ≤ 12; decide
  | wthn m p =>
    have h : p.lc ≤ 12 := h
    show p.lc + 0 ≤ 12
    omega
  | many w ps => exact h
theorem rcP_take {ps : List Pl} {i : Nat} (ok : okL ps) (h : lcS ps ≤ 12) : rcP (ps.take i) ≤ 4096 := by
  refine Nat.le_trans (rcL_le (okL_take ok)).2.1 (pow12 ?_)
  have e := lcS_app (ps := ps.take i) (qs := ps.drop i)
  rw [List.take_append_drop] at e
  omega
theorem rcP_step {ps : List Pl} {i : Nat} {c : Pl} (e : ps[i]? = some c) : rcP (ps.take (i + 1)) = rcP (ps.take i) * c.rc := by
  rw [List.take_add_one, e, rcP_app]
  show _ * rcP [c] = _
  rw [rcP_one]
theorem c_mul {i j : Nat} (h : i ≤ 4096) : CMul (i : Int) (j : Int) := .inl ⟨by omega, by omega⟩
def sp_rcount (n : Nat) : Sp := fun vs H Q _ => ∃ (v : V) (p : Pl), vs = [v] ∧ PlAt H p v ∧ p.ok ∧ p.dp ≤ n ∧ p.lc ≤ 12 ∧ ∀ (H' : Hp), Same H H' → Q (.int (p.rc : Nat)) H'
theorem cal_rcount (T : Tp K mg) : ∀ n : Nat, Cal P w K mg base (n + 1) "reading_count" (sp_rcount n)
  | 0 => by
    obtain ⟨fd, F⟩ := f_reading_count T
    refine cal_of F (g_reading_count T) (b_reading_count F) sc_reading_count (fun vs H Q E h => ?_) (fun cdv A outer s H vs Q E hr h => ?_)
    · obtain ⟨v, p, rfl, _⟩ := h
      rfl
    · obtain ⟨v, p, _, _, _, d, _⟩ := h
      have := dp_pos p
      omega
  | n + 1 => by
    have ih := cal_rcount T n
    obtain ⟨fd, F⟩ := f_reading_count T
    refine cal_of F (g_reading_count T) (b_reading_count F) sc_reading_count (fun vs H Q E h => ?_) (fun cdv A outer s H vs Q E hr h => ?_)
    · obtain ⟨v, p, rfl, _⟩ := h
      rfl
    · obtain ⟨v, p, rfl, hp, ok, d, few, q⟩ := h
      refine ⟨_, (pss_cons (ps_setLc (i := 1) (own := [("part", 4)]) (g := gName 4) (tt := tYes) rfl sc_reading_count.nd rfl rfl (sw_true rfl rfl rfl (by decide +kernel)) (pi_list (C8.pe_c (cal_inner_plans T) hr (by omega) rfl (pa_cons (pv 0) pa_nil))) (blkOk_by (N := N_reading_count) (sc := defScope s_reading_count) (by decide +kernel)) (fun _ _ _ _ _ => (pg_name (i := 4) sc_reading_count.nd rfl (.inl rfl))) (fun _ _ _ _ _ => pts_nil) (fun _ _ _ _ _ => (C8.pe_c ih hr (Nat.le_refl _) rfl (pa_cons (pv 4) pa_nil))))
      (pss_cons (ps_if (pt_cmpR op_eq (pe_ix ix_tup (pv 0) pe_int (fun _ _ => rfl)) pe_str (nomark _)) (pss_one (ps_ret (pe_callB (cr_sum rfl) (by rfl) (z_sum T) bb_sum (pa_cons (pv 1) pa_nil)))) pss_nil)
      (pss_cons (ps_set (i := 2) sc_reading_count.nd rfl (.inl rfl) pe_int)
      (pss_cons (ps_for PassesOwn.never rfl (pi_list (pv 1)) (pg_name (i := 3) sc_reading_count.nd rfl (.inl rfl))
        (pss_one (ps_aug (i := 2) sc_reading_count.nd rfl (.inl rfl) (pv 3) ip_mul)))
      (pss_one (ps_ret (pv 2))))))), ?_⟩
      refine ⟨_, rfl, v, p, rfl, hp, ok, fun L H2 s2 nL ⟨xs, hL, KL⟩ => ⟨L, rfl, ⟨_, .inl (.inl hL)⟩, fun D nD => ?_⟩⟩
      have lk := kids_len ok
      refine lc_pure p.kids (walk_listN KL.len) (fun c => some (c.rc : Int)) (SV V.int) (fun _ h => h) nD (by omega) (fun H s => .inl (.inl (s _ _ hL))) ?_ ?_
      · rintro i c x H3 _ ec s3 ⟨rfl, hv⟩ Good Bad kt kf
        have hc := KL.get hv ec
        have hm := List.mem_of_getElem? ec
        exact ⟨rfl, yes_i (iteT ⟨_, rfl, x, c, rfl, hc.same s3, kids_ok ok hm, kids_dp d hm, kids_lc ok few hm, fun H4 s4 => kt _ _ _ rfl s4 rfl⟩)⟩
      · intro H3 acc s3 d3 p3
        have ea := paired_enc p3
        rw [show (p.kids.filterMap fun c => some (c.rc : Int)) = p.kids.map fun c => (c.rc : Int) from List.filterMap_eq_map ▸ rfl] at ea
        subst ea
        have sA := s2.trans s3
        obtain ⟨t, r, rfl, ht⟩ := (hp.same sA).tup
        refine ⟨_, rfl, t, _, 0, .str p.wd, rfl, rfl, .inl (.inl ht), atI_nat (j := 0) rfl, rfl, _, rfl, ?_⟩
        by_cases ce : p.wd = "either"
        · rw [decide_eq_true (show V.str p.wd = V.str "either" by rw [ce])]
          refine iteT ⟨_, rfl, D, _, rfl, .inl (.inl d3), ?_⟩
          have h := q H3 sA
          rw [rc_either ce ok, ← rcS_sum] at h
          exact h
        · rw [decide_eq_false (show ¬ V.str p.wd = V.str "either" from fun e => ce (V.str.inj e))]
          refine iteF ⟨_, rfl, D, rfl, ⟨_, .inl (.inl d3)⟩, for_list (K := K) (a := D) (xs := (p.kids.map fun c => (c.rc : Int)).map V.int) (fun i σ H' => H' = H3 ∧ ∃ y3 y4 : Option V, σ = [some (.ref t), some (.ref D), some (.int (rcP (p.kids.take i) : Nat)), y3, y4]) ⟨rfl, none, none, rfl⟩ (fun i σ H' _ h => by rw [h.1]; exact .inl (.inl d3)) ?_ ?_⟩
          · rintro i x σ H4 hv ⟨rfl, y3, y4, rfl⟩
            have hi : i < p.kids.length := by
              have := (List.getElem?_eq_some_iff.mp hv).1
              rw [List.length_map, List.length_map] at this
              exact this
            obtain ⟨c, ec⟩ : ∃ c, p.kids[i]? = some c := ⟨_, List.getElem?_eq_getElem hi⟩
            rw [List.getElem?_map, List.getElem?_map, ec] at hv
            cases hv
            have em : ((rcP (p.kids.take (i + 1)) : Nat) : Int) = (rcP (p.kids.take i) : Int) * (c.rc : Int) := by
              rw [rcP_step ec]
              exact Int.natCast_mul _ _
            refine ⟨_, rfl, _, rfl, _, _, rfl, rfl, c_mul (rcP_take (okL_kids ok) (lcS_kids few)), rfl, some (.int (c.rc : Nat)), y4, ?_⟩
            rw [em]
            rfl
          · rintro σ H4 ⟨rfl, y3, y4, rfl⟩
            refine ⟨_, rfl, ?_⟩
            have h := q H4 sA
            rw [rc_prod ce] at h
            rw [List.length_map, List.length_map, List.take_length]
            exact h
/-! ### is_made, of good plans -/
def sp_lenP : Sp := fun vs H Q _ => ∃ (lo hi : Int), vs = [.int lo, .int hi] ∧ 1 ≤ lo ∧ lo ≤ hi ∧ hi ≤ 1000 ∧ Q (.bl true) H
theorem cal_lenP (T : Tp K mg) : Cal P w K mg base 3 "are_lengths" sp_lenP := by
  obtain ⟨fd, F⟩ := f_are_lengths T
  refine cal_of F (g_are_lengths T) (b_are_lengths F) sc_are_lengths (fun vs H Q E h => ?_) (fun cdv A outer s H vs Q E hr h => ?_)
  · obtain ⟨lo, hi, rfl, _⟩ := h
    rfl
  · obtain ⟨lo, hi, rfl, h1, h2, h3, q⟩ := h
    refine ⟨_, (pss_one (ps_ret (pe_and (C8.pe_c (cal_is_whole T) hr (by decide) rfl (pa_cons (pv 0) (pa_cons pe_int (pa_cons (C8.pe_gc (by rfl) (c_MOST_LENGTH T)) pa_nil)))) (pe_one (C8.pe_c (cal_is_whole T) hr (by decide) rfl (pa_cons (pv 1) (pa_cons (pv 0) (pa_cons (C8.pe_gc (by rfl) (c_MOST_LENGTH T)) pa_nil)))))))), ?_⟩
    refine ⟨_, rfl, lo, 1, 1000, rfl, _, rfl, ?_⟩
    rw [decide_eq_true (show 1 ≤ lo ∧ lo ≤ 1000 from ⟨h1, by omega⟩)]
    refine iteT ⟨_, rfl, _, rfl, hi, lo, 1000, rfl, ?_⟩
    rw [decide_eq_true (show lo ≤ hi ∧ hi ≤ 1000 from ⟨h2, h3⟩)]
    exact q
def sp_lateP : Sp := fun vs H Q _ => ∃ la : Option Int, vs = [oV la] ∧ lateB la = true ∧ Q (.bl true) H
theorem cal_lateP (T : Tp K mg) : Cal P w K mg base 3 "is_lateness" sp_lateP := by
  obtain ⟨fd, F⟩ := f_is_lateness T
  refine cal_of F (g_is_lateness T) (b_is_lateness F) sc_is_lateness (fun vs H Q E h => ?_) (fun cdv A outer s H vs Q E hr h => ?_)
  · obtain ⟨la, rfl, _⟩ := h
    rfl
  · obtain ⟨la, rfl, h1, q⟩ := h
    refine ⟨_, (pss_one (ps_ret (pe_or (pe_cmpR op_isN (pv 0) pe_non (nomark _)) (pe_one (C8.pe_c (cal_is_whole T) hr (by decide) rfl (pa_cons (pv 0) (pa_cons pe_int (pa_cons (C8.pe_gc (by rfl) (c_MOST_LATE T)) pa_nil)))))))), ?_⟩
    cases la with
    | none =>
      refine ⟨_, rfl, rfl, _, rfl, ?_⟩
      rw [decide_eq_true (show oV none = V.non from rfl)]
      exact iteT q
    | some i =>
      refine ⟨_, rfl, rfl, _, rfl, ?_⟩
      rw [decide_eq_false (show ¬ oV (some i) = V.non from fun z => by cases z)]
      refine iteF ⟨_, rfl, i, 0, 1000, rfl, ?_⟩
      rw [show decide (0 ≤ i ∧ i ≤ 1000) = true from h1]
      exact q
theorem wh_of {lo hi i : Int} (h : whI lo hi i = true) : lo ≤ i ∧ i ≤ hi := of_decide_eq_true h
theorem ne_str {a b : Str} (h : ¬ a = b) : decide (V.str a = V.str b) = false := decide_eq_false fun e => h (V.str.inj e)
theorem eq_str {a : Str} : decide (V.str a = V.str a) = true := decide_eq_true rfl
def sp_made (n : Nat) : Sp := fun vs H Q _ => ∃ (v : V) (p : Pl), vs = [v, .int (n : Nat)] ∧ PlAt H p v ∧ p.ok ∧ p.gf = true ∧ p.dp ≤ n ∧ ∀ (H' : Hp), Same H H' → Q (.bl true) H'
theorem cal_made (T : Tp K mg) : ∀ n : Nat, Cal P w K mg base (n + 4) "is_made" (sp_made n)
  | 0 => by
    obtain ⟨fd, F⟩ := f_is_made T
    refine cal_of F (g_is_made T) (b_is_made F) sc_is_made (fun vs H Q E h => ?_) (fun cdv A outer s H vs Q E hr h => ?_)
    · obtain ⟨v, p, rfl, _⟩ := h
      rfl
    · obtain ⟨v, p, _, _, _, _, d, _⟩ := h
      have := dp_pos p
      omega
  | n + 1 => by
    have ih := cal_made T n
    obtain ⟨fd, F⟩ := f_is_made T
    refine cal_of F (g_is_made T) (b_is_made F) sc_is_made (fun vs H Q E h => ?_) (fun cdv A outer s H vs Q E hr h => ?_)
    · obtain ⟨v, p, rfl, _⟩ := h
      rfl
    · obtain ⟨v, p, rfl, hp, ok, gf, d, q⟩ := h
      obtain ⟨t, r, rfl, ht⟩ := hp.tup
      have S : SqT K H t (.str p.wd :: r) := .inl (.inl ht)
      refine ⟨_, (pss_cons (ps_if (PW.pt (pw_or (pt_cmpR op_eq (pv 1) pe_int (nomark _)) (pw_or (pt_not (pt_val (pe_callB call_isK (by rfl) (z_isinstance T) bb_isinstance (pa_cons (pv 0) (pa_cons (pe_bltn (v := .ty "tuple") (by rfl) (z_tuple T) bb_tuple rfl) pa_nil))))) (pw_or (pt_cmpR op_eq (pe_callB call_len_seq (by rfl) (z_len T) bb_len (pa_cons (pv 0) pa_nil)) pe_int (nomark _)) (pw_or1 (pt_not (pt_val (pe_callB call_isK (by rfl) (z_isinstance T) bb_isinstance (pa_cons (pe_ix ix_tup (pv 0) pe_int (fun _ _ => rfl)) (pa_cons (pe_bltn (v := .ty "str") (by rfl) (z_str T) bb_str rfl) pa_nil)))))))))) (pss_one (ps_ret pe_bl)) pss_nil)
      (pss_cons (ps_set (i := 2) sc_is_made.nd rfl (.inl rfl) (pe_ix ix_tup (pv 0) pe_int (fun _ _ => rfl)))
      (pss_cons (ps_if (pt_cmpR op_eq (pv 2) pe_str (nomark _)) (pss_one (ps_ret (pe_and (pe_cmpR op_eq (pe_callB call_len_seq (by rfl) (z_len T) bb_len (pa_cons (pv 0) pa_nil)) pe_int (nomark _)) (pe_and (C8.pe_c (cal_is_whole T) hr (by omega) rfl (pa_cons (pe_ix ix_tup (pv 0) pe_int (fun _ _ => rfl)) (pa_cons pe_int (pa_cons (C8.pe_gc (by rfl) (c_MOST_TICKS T)) pa_nil)))) (pe_one (C8.pe_c (cal_is_whole T) hr (by omega) rfl (pa_cons (pe_ix ix_tup (pv 0) pe_int (fun _ _ => rfl)) (pa_cons (pe_ix ix_tup (pv 0) pe_int (fun _ _ => rfl)) (pa_cons (C8.pe_gc (by rfl) (c_MOST_TICKS T)) pa_nil))))))))) pss_nil)
      (pss_cons (ps_if (pt_cmpR op_eq (pv 2) pe_str (nomark _)) (pss_one (ps_ret (pe_and (pe_cmpR op_eq (pe_callB call_len_seq (by rfl) (z_len T) bb_len (pa_cons (pv 0) pa_nil)) pe_int (nomark _)) (pe_and (C8.pe_c (cal_lenP T) hr (by omega) rfl (pa_cons (pe_ix ix_tup (pv 0) pe_int (fun _ _ => rfl)) (pa_cons (pe_ix ix_tup (pv 0) pe_int (fun _ _ => rfl)) pa_nil))) (pe_one (C8.pe_c (cal_lateP T) hr (by omega) rfl (pa_cons (pe_ix ix_tup (pv 0) pe_int (fun _ _ => rfl)) pa_nil))))))) pss_nil)
      (pss_cons (ps_if (pt_cmpR op_eq (pv 2) pe_str (nomark _)) (pss_one (ps_ret (pe_and (pe_cmpR op_eq (pe_callB call_len_seq (by rfl) (z_len T) bb_len (pa_cons (pv 0) pa_nil)) pe_int (nomark _)) (pe_and (C8.pe_c (cal_is_whole T) hr (by omega) rfl (pa_cons (pe_ix ix_tup (pv 0) pe_int (fun _ _ => rfl)) (pa_cons pe_int (pa_cons (C8.pe_gc (by rfl) (c_MOST_TICKS T)) pa_nil)))) (pe_one (C8.pe_c ih hr (Nat.le_refl _) rfl (pa_cons (pe_ix ix_tup (pv 0) pe_int (fun _ _ => rfl)) (pa_cons (pe_op op_sub (pv 1) pe_int) pa_nil)))))))) pss_nil)
      (pss_cons (ps_if (PW.pt (pw_or (pt_cmpR op_notIn_seq (pv 2) (pe_tup (pa_cons pe_str (pa_cons pe_str (pa_cons pe_str pa_nil)))) (by rfl)) (pw_or (pt_cmpR op_ne (pe_callB call_len_seq (by rfl) (z_len T) bb_len (pa_cons (pv 0) pa_nil)) pe_int (nomark _)) (pw_or1 (pt_not (pt_val (pe_callB call_isK (by rfl) (z_isinstance T) bb_isinstance (pa_cons (pe_ix ix_tup (pv 0) pe_int (fun _ _ => rfl)) (pa_cons (pe_bltn (v := .ty "list") (by rfl) (z_list T) bb_list rfl) pa_nil))))))))) (pss_one (ps_ret pe_bl)) pss_nil)
      (pss_one (ps_ret (pe_and (pe_chain op_le op_le pe_int (pe_callB call_len_seq (by rfl) (z_len T) bb_len (pa_cons (pe_ix ix_tup (pv 0) pe_int (fun _ _ => rfl)) pa_nil)) (C8.pe_gc (by rfl) (c_MOST_PLANS T))) (pe_one (pe_callB (cr_all rfl) (by rfl) (z_all T) bb_all (pa_cons (pe_lc (own := [("part", 3)]) (g := gName 3) (tt := tYes) rfl sc_is_made.nd (pi_list (pe_ix ix_tup (pv 0) pe_int (fun _ _ => rfl))) (blkOk_by (N := N_is_made) (sc := defScope s_is_made) (by decide +kernel)) (fun _ _ _ _ _ => (pg_name (i := 3) sc_is_made.nd rfl (.inl rfl))) (fun _ _ _ _ _ => pts_nil) (fun _ _ _ _ _ => (C8.pe_c ih hr (Nat.le_refl _) rfl (pa_cons (pv 3) (pa_cons (pe_op op_sub (pv 1) pe_int) pa_nil))))) pa_nil)))))))))))), ?_⟩
      refine ⟨_, rfl, rfl, _, rfl, ?_⟩
      rw [decide_eq_false (show ¬ V.int ((n + 1 : Nat) : Int) = V.int 0 from fun e => by have e := V.int.inj e; omega)]
      refine iteF ⟨_, rfl, _, "tuple", "tuple", rfl, .base (.tup ht), by decide, by decide, _, rfl, iteF ⟨_, rfl, t, _, rfl, .inr S, rfl, _, rfl, ?_⟩⟩
      rw [decide_eq_false (show ¬ V.int ((V.str p.wd :: r).length : Nat) = V.int 0 from fun e => by have e := V.int.inj e; rw [List.length_cons] at e; omega)]
      refine iteF ⟨_, rfl, t, _, 0, .str p.wd, rfl, rfl, S, atI_nat (j := 0) rfl, _, "str", "str", rfl, .base (.str _), by decide, by decide, _, rfl, iteF ?_⟩
      refine ⟨_, rfl, t, _, 0, .str p.wd, rfl, rfl, S, atI_nat (j := 0) rfl, ?_⟩
      refine ⟨_, rfl, rfl, _, rfl, ?_⟩
      cases p with
      | ours lo hi =>
        obtain ⟨t', e, h2⟩ := hp
        cases e
        have S : SqT K H t [.str "ours", .int lo, .int hi] := .inl (.inl h2)
        have gf : (whI 0 1000 lo && whI 0 1000 hi && decide (lo ≤ hi)) = true := gf
        rw [Bool.and_eq_true, Bool.and_eq_true] at gf
        have g1 := wh_of gf.1.1
        have g2 := wh_of gf.1.2
        have g3 := of_decide_eq_true gf.2
        rw [show decide (V.str (Pl.ours lo hi).wd = V.str "ours") = true from eq_str]
        refine iteT ⟨_, rfl, t, _, rfl, .inr S, rfl, _, rfl, iteT ⟨_, rfl, t, _, 1, .int lo, rfl, rfl, S, atI_nat (j := 1) rfl, lo, 0, 1000, rfl, _, rfl, ?_⟩⟩
        rw [decide_eq_true g1]
        refine iteT ⟨_, rfl, t, _, 2, .int hi, rfl, rfl, S, atI_nat (j := 2) rfl, _, rfl, t, _, 1, .int lo, rfl, rfl, S, atI_nat (j := 1) rfl, hi, lo, 1000, rfl, ?_⟩
        rw [decide_eq_true (show lo ≤ hi ∧ hi ≤ 1000 from ⟨g3, g2.2⟩)]
        exact q H (Same.refl H)
      | wthr lo hi la =>
        obtain ⟨t', e, h2⟩ := hp
        cases e
        have S : SqT K H t [.str "weather", .int lo, .int hi, oV la] := .inl (.inl h2)
        have gf : (whI 1 1000 lo && whI 1 1000 hi && decide (lo ≤ hi) && lateB la) = true := gf
        rw [Bool.and_eq_true, Bool.and_eq_true, Bool.and_eq_true] at gf
        have g1 := wh_of gf.1.1.1
        have g2 := wh_of gf.1.1.2
        have g3 := of_decide_eq_true gf.1.2
        rw [show decide (V.str (Pl.wthr lo hi la).wd = V.str "ours") = false from ne_str (by show ¬ ("weather" : Str) = "ours"; decide +kernel)]
        refine iteF ⟨_, rfl, rfl, _, rfl, ?_⟩
        rw [show decide (V.str (Pl.wthr lo hi la).wd = V.str "weather") = true from eq_str]
        exact iteT ⟨_, rfl, t, _, rfl, .inr S, rfl, _, rfl, iteT ⟨_, rfl, t, _, 1, .int lo, rfl, rfl, S, atI_nat (j := 1) rfl, _, rfl, t, _, 2, .int hi, rfl, rfl, S, atI_nat (j := 2) rfl, lo, hi, rfl, g1.1, g3, g2.2, _, rfl, iteT ⟨_, rfl, t, _, 3, oV la, rfl, rfl, S, atI_nat (j := 3) rfl, la, rfl, gf.2, q H (Same.refl H)⟩⟩⟩
      | wthn m p =>
        obtain ⟨t', u, e, h2, h3⟩ := hp
        cases e
        have S : SqT K H t [.str "within", .int m, u] := .inl (.inl h2)
        have gf : (whI 0 1000 m && p.gf) = true := gf
        rw [Bool.and_eq_true] at gf
        have g1 := wh_of gf.1
        rw [show decide (V.str (Pl.wthn m p).wd = V.str "ours") = false from ne_str (by show ¬ ("within" : Str) = "ours"; decide +kernel)]
        refine iteF ⟨_, rfl, rfl, _, rfl, ?_⟩
        rw [show decide (V.str (Pl.wthn m p).wd = V.str "weather") = false from ne_str (by show ¬ ("within" : Str) = "weather"; decide +kernel)]
        refine iteF ⟨_, rfl, rfl, _, rfl, ?_⟩
        rw [show decide (V.str (Pl.wthn m p).wd = V.str "within") = true from eq_str]
        refine iteT ⟨_, rfl, t, _, rfl, .inr S, rfl, _, rfl, iteT ⟨_, rfl, t, _, 1, .int m, rfl, rfl, S, atI_nat (j := 1) rfl, m, 0, 1000, rfl, _, rfl, ?_⟩⟩
        rw [decide_eq_true g1]
        have d : p.dp + 1 ≤ n + 1 := d
        refine iteT ⟨_, rfl, t, _, 2, u, rfl, rfl, S, atI_nat (j := 2) rfl, _, rfl, _, 1, rfl, rfl, u, p, ?_, h3, ok, gf.2, by omega, q⟩
        show [u, V.int (((n + 1 : Nat) : Int) - 1)] = [u, V.int (n : Nat)]
        rw [show ((n + 1 : Nat) : Int) - 1 = (n : Nat) by omega]
      | many w ps =>
        obtain ⟨t', l, xs, e, h2, h3, h4⟩ := hp
        cases e
        have S : SqT K H t [.str w, .ref l] := .inl (.inl h2)
        have no := many_no ok.1
        have lx := h4.len
        have d : dpL ps + 1 ≤ n + 1 := d
        rw [show decide (V.str (Pl.many w ps).wd = V.str "ours") = false from ne_str no.1]
        refine iteF ⟨_, rfl, rfl, _, rfl, ?_⟩
        rw [show decide (V.str (Pl.many w ps).wd = V.str "weather") = false from ne_str no.2.1]
        refine iteF ⟨_, rfl, rfl, _, rfl, ?_⟩
        rw [show decide (V.str (Pl.many w ps).wd = V.str "within") = false from ne_str no.2.2]
        refine iteF ⟨_, rfl, (by show 3 ≤ sizeLine; decide), fun g ng => ?_⟩
        have sg := same_upd (o := .tup [.str "then", .str "beside", .str "either"]) ng
        refine ⟨g, (["then", "beside", "either"] : List Str).map V.str, rfl, .inr (.inl (.inl upd_same)), rfl, rfl, _, rfl, ?_⟩
        show if (!inV (.str w) ((["then", "beside", "either"] : List Str).map V.str)) = true then _ else _
        rw [in_strs, decide_eq_true (show w ∈ (["then", "beside", "either"] : List Str) by
          simp only [List.mem_cons, List.not_mem_nil, or_false]
          exact ok.1)]
        have S1 : SqT K (upd H g (.tup [.str "then", .str "beside", .str "either"])) t [.str w, .ref l] := .inl (.inl (sg _ _ h2))
        refine iteF ⟨_, rfl, t, _, rfl, .inr S1, rfl, _, rfl, iteF ⟨_, rfl, t, _, 1, .ref l, rfl, rfl, S1, atI_nat (j := 1) rfl, _, "list", "list", rfl, .base (.lst (sg _ _ h3)), by decide, by decide, _, rfl, iteF ?_⟩⟩
        have hl1 := sg _ _ h3
        have h41 := h4.same sg
        generalize upd H g (.tup [.str "then", .str "beside", .str "either"]) = H1 at sg S1 hl1 h41 ⊢
        refine ⟨_, rfl, t, _, 1, .ref l, rfl, rfl, S1, atI_nat (j := 1) rfl, l, xs, rfl, .inl (.inl (.inl hl1)), _, _, rfl, rfl, ?_⟩
        have k1 := ok.2.1
        have k4 := ok.2.2.1
        refine ⟨_, rfl, ?_⟩
        rw [decide_eq_true (show (1 : Int) ≤ (xs.length : Nat) by omega)]
        refine iteT ⟨_, _, rfl, rfl, _, rfl, ?_⟩
        rw [decide_eq_true (show ((xs.length : Nat) : Int) ≤ 4 by omega)]
        refine iteT ⟨_, rfl, t, _, 1, .ref l, rfl, rfl, S1, atI_nat (j := 1) rfl, l, rfl, ⟨_, .inl (.inl hl1)⟩, fun D nD => ?_⟩
        have gfs : ps.all Pl.gf = true := gfL_all ▸ (show gfL ps = true from gf)
        refine lc_pure ps (walk_listN lx) (fun _ => some true) (SV V.bl) (fun _ h => h) nD (by omega) (fun H s => .inl (.inl (s _ _ hl1))) ?_ ?_
        · rintro i c x H3 _ ec s3 ⟨rfl, hv⟩ Good Bad kt kf
          have hc := h41.get hv ec
          have hm := List.mem_of_getElem? ec
          have := dpL_mem hm
          refine ⟨rfl, yes_i (iteT ⟨_, rfl, _, rfl, _, 1, rfl, rfl, x, c, ?_, hc.same s3, okL_mem ok.2.2.2 hm, List.all_eq_true.mp gfs c hm, by omega, fun H4 s4 => kt _ _ _ rfl s4 rfl⟩)⟩
          show [x, V.int (((n + 1 : Nat) : Int) - 1)] = [x, V.int (n : Nat)]
          rw [show ((n + 1 : Nat) : Int) - 1 = (n : Nat) by omega]
        · intro H3 acc s3 d3 p3
          have ea := paired_enc p3
          subst ea
          refine ⟨D, _, rfl, .inl (.inl d3), ?_⟩
          rw [show (List.filterMap (fun _ => some true) ps).all id = true from List.all_eq_true.mpr fun b hb => by
            obtain ⟨a, _, e⟩ := List.mem_filterMap.mp hb
            cases e
            rfl]
          exact q H3 (sg.trans s3)
end
end Tw

set_option maxHeartbeats 4000000
namespace Tw
open PySem PySem.Spec PyProof.Rows L2
/-! plans.py: need_plan of good plans, the readings -/
theorem cut_init : ∀ {xs : List V}, 0 < xs.length → xs.length ≤ 4 → cutV xs none (some (-1)) = xs.dropLast
  | [], h, _ => by simp at h
  | [_], _, _ => rfl
  | [_, _], _, _ => rfl
  | [_, _, _], _, _ => rfl
  | [_, _, _, _], _, _ => rfl
  | _ :: _ :: _ :: _ :: _ :: _, _, h => by simp at h
theorem at_last : ∀ {xs : List V} {x : V}, xs.length ≤ 4 → xs[xs.length - 1]? = some x → atI xs (-1) = some x
  | [], _, _, h => by simp at h
  | [_], _, _, h => h
  | [_, _], _, _, h => h
  | [_, _, _], _, _, h => h
  | [_, _, _, _], _, _, h => h
  | _ :: _ :: _ :: _ :: _ :: _, _, h, _ => by simp at h
theorem drop_at {α : Type} {l : List α} {i : Nat} {x : α} (e : l[i]? = some x) : l.drop i = x :: l.drop (i + 1) := by
  obtain ⟨h, rfl⟩ := List.getElem?_eq_some_iff.mp e
  exact List.drop_eq_getElem_cons h
/-- a new plan: its lists are new -/
def NewPl (H H' : Hp) (q : Pl) (u : V) : Prop := ∃ ls, PlF H' q u ls ∧ ∀ a ∈ ls, H a = none
theorem leaf_new {H : Hp} {p : Pl} {v : V} (h : PlAt H p v) (e : leafW p = true) (ok : p.ok) : PlF H p v [] ∧ p.ways = [p] := by
  cases p with
  | ours a b => exact ⟨⟨rfl, h⟩, rfl⟩
  | wthr a b c => exact ⟨⟨rfl, h⟩, rfl⟩
  | wthn n p =>
    rw [leaf_wthn] at e
    cases e
  | many w ps =>
    rw [leaf_many ok.1] at e
    cases e
section
variable {P : Program} {w : World} {K : PySem.W.Frag} {mg : Str → Option Value} {base : Heap}
def sp_need : Sp := fun vs H Q _ => ∃ (v : V) (p : Pl), vs = [v] ∧ PlAt H p v ∧ p.ok ∧ p.gf = true ∧ p.dp ≤ 6 ∧ p.lc ≤ 12 ∧ p.rc ≤ 64 ∧ ∀ H', Same H H' → Q .non H'
theorem cal_need_plan (T : Tp K mg) : Cal P w K mg base 11 "need_plan" sp_need := by
  obtain ⟨fd, F⟩ := f_need_plan T
  refine cal_of F (g_need_plan T) (b_need_plan F) sc_need_plan (fun vs H Q E h => ?_) (fun cdv A outer s H vs Q E hr h => ?_)
  · obtain ⟨v, p, rfl, _⟩ := h
    rfl
  · obtain ⟨v, p, rfl, hp, ok, gf, dp, lc, rc, q⟩ := h
    refine ⟨_, (pss_one (ps_if (PW.pt (pw_or (pt_not (pt_val (C8.pe_c (cal_made T 6) hr (by decide) rfl (pa_cons (pv 0) (pa_cons (C8.pe_gc (by rfl) (c_MOST_DEPTH T)) pa_nil))))) (pw_or (pt_cmpR op_gt (C8.pe_c (cal_pcount T 6) hr (by decide) rfl (pa_cons (pv 0) pa_nil)) (C8.pe_gc (by rfl) (c_MOST_PARTS T)) (nomark _)) (pw_or1 (pt_cmpR op_gt (C8.pe_c (cal_rcount T 6) hr (by decide) rfl (pa_cons (pv 0) pa_nil)) (C8.pe_gc (by rfl) (c_MOST_READINGS T)) (nomark _)))))) (pss_one ps_never) pss_nil)), ?_⟩
    refine ⟨_, rfl, v, p, rfl, hp, ok, gf, dp, fun H1 s1 => ⟨_, rfl, iteF ?_⟩⟩
    refine ⟨_, rfl, v, p, rfl, hp.same s1, ok, dp, fun H2 s2 => ⟨_, _, rfl, rfl, _, rfl, ?_⟩⟩
    rw [decide_eq_false (show ¬ (12 : Int) < (p.lc : Nat) by omega)]
    refine iteF ⟨_, rfl, v, p, rfl, (hp.same s1).same s2, ok, dp, lc, fun H3 s3 => ⟨_, _, rfl, rfl, _, rfl, ?_⟩⟩
    rw [decide_eq_false (show ¬ (64 : Int) < (p.rc : Nat) by omega)]
    exact iteF (q H3 ((s1.trans s2).trans s3))
/-! ### reading, taken -/
def sp_read (n : Nat) : Sp := fun vs H Q _ => ∃ (v : V) (p q : Pl) (i : Nat), vs = [v, .int (i : Nat)] ∧ PlAt H p v ∧ p.ok ∧ p.dp ≤ n ∧ p.lc ≤ 12 ∧ p.ways[i]? = some q ∧ ∀ (u : V) (H' : Hp), Same H H' → NewPl H H' q u → Q u H'
def sp_taken (n : Nat) : Sp := fun vs H Q _ => ∃ (l : Addr) (xs : List V) (ps : List Pl) (q : Pl) (i : Nat), vs = [.ref l, .int (i : Nat)] ∧ H l = some (.lst xs) ∧ PlsAt H ps xs ∧ okL ps ∧ 1 ≤ ps.length ∧ ps.length ≤ 4 ∧ dpL ps ≤ n ∧ lcS ps ≤ 12 ∧ (wayL ps).flatten[i]? = some q ∧ ∀ (u : V) (H' : Hp), Same H H' → NewPl H H' q u → Q u H'
theorem NewPl.back {H H1 H' : Hp} {q : Pl} {u : V} (h : NewPl H1 H' q u) (s : Same H H1) : NewPl H H' q u := by
  obtain ⟨ls, h1, h2⟩ := h
  exact ⟨ls, h1, fun a ha => s.free (h2 a ha)⟩
theorem cal_taken (T : Tp K mg) {n : Nat} (ih : Cal P w K mg base (2 * n + 2) "reading" (sp_read n)) : Cal P w K mg base (2 * n + 3) "taken" (sp_taken n) := by
  obtain ⟨fd, F⟩ := f_taken T
  refine cal_of F (g_taken T) (b_taken F) sc_taken (fun vs H Q E h => ?_) (fun cdv A outer s H vs Q E hr h => ?_)
  · obtain ⟨l, xs, ps, q, i, rfl, _⟩ := h
    rfl
  · obtain ⟨l, xs, ps, q0, i, rfl, hl, R, ok, l1, l4, dp, lc, ei, q⟩ := h
    have lx := R.len
    refine ⟨_, (pss_cons (ps_for PassesOwn.never rfl (pi_list (pe_slice sl_list (pv 0) po_none (po_some (pe_un un_neg pe_int)))) (pg_name (i := 2) sc_taken.nd rfl (.inl rfl))
        (pss_cons (ps_set (i := 3) sc_taken.nd rfl (.inl rfl) (C8.pe_c (cal_rcount T n) hr (by omega) rfl (pa_cons (pv 2) pa_nil)))
        (pss_cons (ps_if (pt_cmpR op_lt (pv 1) (pv 3) (nomark _)) (pss_one (ps_ret (C8.pe_c ih hr (Nat.le_refl _) rfl (pa_cons (pv 2) (pa_cons (pv 1) pa_nil))))) pss_nil)
        (pss_one (ps_aug (i := 1) sc_taken.nd rfl (.inl rfl) (pv 3) ip_sub)))))
      (pss_one (ps_ret (C8.pe_c ih hr (Nat.le_refl _) rfl (pa_cons (pe_ix ix_list (pv 0) (pe_un un_neg pe_int) (fun _ _ => rfl)) (pa_cons (pv 1) pa_nil)))))), ?_⟩
    refine ⟨_, rfl, _, rfl, _, rfl, l, xs, rfl, .inl (.inl hl), fun k nk => ?_⟩
    rw [cut_init (by omega) (by omega)]
    have sk := same_upd (o := .lst xs.dropLast) nk
    have hk : upd H k (.lst xs.dropLast) k = some (.lst xs.dropLast) := upd_same
    have R1 := R.same sk
    have hl1 := sk _ _ hl
    generalize upd H k (.lst xs.dropLast) = H1 at sk hk R1 hl1 ⊢
    refine ⟨k, rfl, ⟨_, .inl (.inl hk)⟩, for_list (K := K) (a := k) (xs := xs.dropLast) (fun j σ H' => ∃ (at_ : Nat) (y2 y3 : Option V), σ = [some (.ref l), some (.int (at_ : Nat)), y2, y3] ∧ Same H1 H' ∧ (wayL (ps.drop j)).flatten[at_]? = some q0) ⟨i, none, none, rfl, Same.refl _, ei⟩ (fun j σ H' _ ⟨_, _, _, _, s, _⟩ => .inl (.inl (s _ _ hk))) ?_ ?_⟩
    · rintro j x σ H2 hv ⟨at_, y2, y3, rfl, s2, e2⟩
      have hj : j < xs.dropLast.length := (List.getElem?_eq_some_iff.mp hv).1
      rw [List.length_dropLast] at hj
      have hvx : xs[j]? = some x := by
        rw [List.getElem?_dropLast] at hv
        rw [if_pos (by omega)] at hv
        exact hv
      obtain ⟨c, ec⟩ : ∃ c, ps[j]? = some c := ⟨_, List.getElem?_eq_getElem (by omega)⟩
      have hm := List.mem_of_getElem? ec
      have hc := (R1.get hvx ec).same s2
      have cdp := dpL_mem hm
      have clc := lcS_mem hm
      rw [drop_at ec] at e2
      have e2 : (c.ways ++ (wayL (ps.drop (j + 1))).flatten)[at_]? = some q0 := e2
      have hwl : c.ways.length = c.rc := ways_len
      refine ⟨_, rfl, x, c, rfl, hc, okL_mem ok hm, by omega, by omega, fun H3 s3 => ?_⟩
      refine ⟨_, rfl, _, rfl, _, _, rfl, rfl, _, rfl, ?_⟩
      by_cases lt : at_ < c.rc
      · rw [decide_eq_true (show ((at_ : Nat) : Int) < (c.rc : Nat) by omega)]
        rw [List.getElem?_append_left (by omega)] at e2
        have s13 := (sk.trans s2).trans s3
        exact iteT ⟨_, rfl, _, rfl, x, c, q0, at_, rfl, hc.same s3, okL_mem ok hm, by omega, by omega, e2, fun u H4 s4 N => q u H4 (s13.trans s4) (N.back s13)⟩
      · rw [decide_eq_false (show ¬ ((at_ : Nat) : Int) < (c.rc : Nat) by omega)]
        rw [List.getElem?_append_right (by omega), hwl] at e2
        refine iteF ⟨_, rfl, _, rfl, _, _, rfl, rfl, at_ - c.rc, some x, some (.int (c.rc : Nat)), ?_, s2.trans s3, e2⟩
        rw [show ((at_ - c.rc : Nat) : Int) = (at_ : Int) - (c.rc : Int) by omega]
        rfl
    · rintro σ H2 ⟨at_, y2, y3, rfl, s2, e2⟩
      rw [List.length_dropLast] at e2
      obtain ⟨c, ec⟩ : ∃ c, ps[ps.length - 1]? = some c := ⟨_, List.getElem?_eq_getElem (by omega)⟩
      obtain ⟨x, ex⟩ : ∃ x, xs[xs.length - 1]? = some x := ⟨_, List.getElem?_eq_getElem (by omega)⟩
      have hm := List.mem_of_getElem? ec
      have cdp := dpL_mem hm
      have clc := lcS_mem hm
      rw [lx, drop_at ec, show ps.length - 1 + 1 = ps.length by omega, List.drop_length] at e2
      have e2 : (c.ways ++ [])[at_]? = some q0 := e2
      rw [List.append_nil] at e2
      have hc := (R1.get (i := ps.length - 1) (by rw [← lx]; exact ex) ec).same s2
      have s12 := sk.trans s2
      exact ⟨_, rfl, _, rfl, l, xs, -1, x, rfl, rfl, .inl (.inl (s2 _ _ hl1)), at_last (by omega) ex, _, rfl, x, c, q0, at_, rfl, hc, okL_mem ok hm, by omega, by omega, e2, fun u H4 s4 N => q u H4 (s12.trans s4) (N.back s12)⟩
theorem cal_read (T : Tp K mg) : ∀ n : Nat, Cal P w K mg base (2 * n + 2) "reading" (sp_read n)
  | 0 => by
    obtain ⟨fd, F⟩ := f_reading T
    refine cal_of F (g_reading T) (b_reading F) sc_reading (fun vs H Q E h => ?_) (fun cdv A outer s H vs Q E hr h => ?_)
    · obtain ⟨v, p, q, i, rfl, _⟩ := h
      rfl
    · obtain ⟨v, p, q, i, _, _, _, d, _⟩ := h
      have := dp_pos p
      omega
  | n + 1 => by
    have ih := cal_read T n
    have it := cal_taken T ih
    obtain ⟨fd, F⟩ := f_reading T
    refine cal_of F (g_reading T) (b_reading F) sc_reading (fun vs H Q E h => ?_) (fun cdv A outer s H vs Q E hr h => ?_)
    · obtain ⟨v, p, q, i, rfl, _⟩ := h
      rfl
    · obtain ⟨v, p, q0, i, rfl, hp, ok, d, lc, ei, q⟩ := h
      obtain ⟨t, r, rfl, ht⟩ := hp.tup
      refine ⟨_, (pss_cons (ps_set (i := 2) sc_reading.nd rfl (.inl rfl) (pe_ix ix_tup (pv 0) pe_int (fun _ _ => rfl)))
      (pss_cons (ps_if (pt_cmpR op_in_seq (pv 2) (pe_tup (pa_cons pe_str (pa_cons pe_str pa_nil))) (by rfl)) (pss_one (ps_ret (pv 0))) pss_nil)
      (pss_cons (ps_if (pt_cmpR op_eq (pv 2) pe_str (nomark _)) (pss_one (ps_ret (pe_tup (pa_cons (pv 2) (pa_cons (pe_ix ix_tup (pv 0) pe_int (fun _ _ => rfl)) (pa_cons (C8.pe_c ih hr (by omega) rfl (pa_cons (pe_ix ix_tup (pv 0) pe_int (fun _ _ => rfl)) (pa_cons (pv 1) pa_nil))) pa_nil)))))) pss_nil)
      (pss_cons (ps_if (pt_cmpR op_eq (pv 2) pe_str (nomark _)) (pss_one (ps_ret (C8.pe_c it hr (by omega) rfl (pa_cons (pe_ix ix_tup (pv 0) pe_int (fun _ _ => rfl)) (pa_cons (pv 1) pa_nil))))) pss_nil)
      (pss_cons (ps_set (i := 3) sc_reading.nd rfl (.inl rfl) (pe_lst pa_nil))
      (pss_cons (ps_for PassesOwn.never rfl (RT.pi_revA (by rfl) (z_reversed T) (pe_callTy call_list_of (by rfl) (z_list T) bb_list (pa_cons (pe_ix ix_tup (pv 0) pe_int (fun _ _ => rfl)) pa_nil))) (pg_name (i := 4) sc_reading.nd rfl (.inl rfl))
        (pss_cons (ps_asg (pe_callB call_divmod (by rfl) (z_divmod T) bb_divmod (pa_cons (pv 1) (pa_cons (C8.pe_c (cal_rcount T n) hr (by omega) rfl (pa_cons (pv 4) pa_nil)) pa_nil))) (pg_tup rfl (pgs_cons (pg_name (i := 1) sc_reading.nd rfl (.inl rfl)) (pgs_cons (pg_name (i := 5) sc_reading.nd rfl (.inl rfl)) pgs_nil))))
        (pss_one (ps_expr (pe_bm PySem.F.plainAttrs_list PySem.F.slot_list_append PySem.F.type_list_append mt_append (pv 3) (pa_cons (C8.pe_c ih hr (by omega) rfl (pa_cons (pv 4) (pa_cons (pv 5) pa_nil))) pa_nil))))))
      (pss_one (ps_ret (pe_tup (pa_cons (pv 2) (pa_cons (pe_revL (pv 3)) pa_nil))))))))))), ?_⟩
      refine ⟨_, rfl, t, _, 0, .str p.wd, rfl, rfl, .inl (.inl ht), atI_nat (j := 0) rfl, ?_⟩
      refine ⟨_, rfl, (by show 2 ≤ sizeLine; decide), fun g ng => ?_⟩
      have sg := same_upd (o := .tup [.str "ours", .str "weather"]) ng
      refine ⟨g, [.str "ours", .str "weather"], rfl, .inr (.inl (.inl upd_same)), rfl, rfl, _, rfl, ?_⟩
      show if inV (.str p.wd) [.str "ours", .str "weather"] = true then _ else _
      rw [two_in, show decide (p.wd = "ours" ∨ p.wd = "weather") = leafW p from rfl]
      have hp1 := hp.same sg
      generalize upd H g (.tup [.str "ours", .str "weather"]) = H1 at sg hp1 ⊢
      cases e : leafW p with
      | true =>
        obtain ⟨h1, h2⟩ := leaf_new hp1 e ok
        rw [h2] at ei
        have e0 : i = 0 := by
          have := (List.getElem?_eq_some_iff.mp ei).1
          simp at this
          exact this
        subst e0
        cases ei
        exact iteT ⟨_, rfl, q _ H1 sg ⟨[], h1, fun a ha => nomatch ha⟩⟩
      | false =>
        refine iteF ⟨_, rfl, rfl, _, rfl, ?_⟩
        cases p with
        | ours a b =>
          rw [leaf_ours] at e
          cases e
        | wthr a b c =>
          rw [leaf_wthr] at e
          cases e
        | wthn m p =>
          obtain ⟨t', u, e1, h2, h3⟩ := hp1
          cases e1
          have d : p.dp + 1 ≤ n + 1 := d
          rw [show decide (V.str (Pl.wthn m p).wd = V.str "within") = true from eq_str]
          obtain ⟨q1, e2, e3⟩ := Option.map_eq_some_iff.mp (show (p.ways[i]?).map (Pl.wthn m) = some q0 by rw [← List.getElem?_map]; exact ei)
          subst e3
          refine iteT ⟨_, rfl, _, rfl, t, _, 1, .int m, rfl, rfl, .inl (.inl h2), atI_nat (j := 1) rfl, _, rfl, t, _, 2, u, rfl, rfl, .inl (.inl h2), atI_nat (j := 2) rfl, _, rfl, u, p, q1, i, rfl, h3, ok, by omega, lc, e2, fun x H2 s2 N => ⟨(by show 3 ≤ sizeLine; decide), fun t2 nt2 => ?_⟩⟩
          obtain ⟨ls, N1, N2⟩ := N
          have st := same_upd (o := .tup [.str "within", .int m, x]) nt2
          exact q _ _ ((sg.trans s2).trans st) ⟨ls, ⟨t2, x, rfl, upd_same, N1.same st⟩, fun a ha => sg.free (N2 a ha)⟩
        | many w ps =>
          obtain ⟨t', l, xs, e1, h2, h3, h4⟩ := hp1
          cases e1
          have d : dpL ps + 1 ≤ n + 1 := d
          have lc : lcS ps ≤ 12 := lc
          have no := many_no ok.1
          have lx := h4.len
          have l1 := ok.2.1
          have l4 := ok.2.2.1
          rw [show decide (V.str (Pl.many w ps).wd = V.str "within") = false from ne_str no.2.2]
          refine iteF ⟨_, rfl, rfl, _, rfl, ?_⟩
          have ei : (if w = "either" then (wayL ps).flatten else (rowsOf (wayL ps)).map (Pl.many w))[i]? = some q0 := ei
          by_cases ce : w = "either"
          · rw [if_pos ce] at ei
            rw [show decide (V.str (Pl.many w ps).wd = V.str "either") = true from decide_eq_true (by show V.str w = _; rw [ce])]
            exact iteT ⟨_, rfl, t, _, 1, .ref l, rfl, rfl, .inl (.inl h2), atI_nat (j := 1) rfl, _, rfl, l, xs, ps, q0, i, rfl, h3, h4, ok.2.2.2, l1, l4, by omega, lc, ei, fun u H2 s2 N => q u H2 (sg.trans s2) (N.back sg)⟩
          · rw [if_neg ce, List.getElem?_map] at ei
            obtain ⟨row, er, e3⟩ := Option.map_eq_some_iff.mp ei
            subst e3
            rw [show decide (V.str (Pl.many w ps).wd = V.str "either") = false from ne_str ce]
            refine iteF ⟨Nat.zero_le _, fun Pr nPr => ?_⟩
            have sPr := same_upd (o := .lst []) nPr
            refine ⟨_, rfl, t, _, 1, .ref l, rfl, rfl, .inl (.inl (sPr _ _ h2)), atI_nat (j := 1) rfl, l, xs, rfl, .inl (.inl (.inl (sPr _ _ h3))), fun L nL => ?_⟩
            have sL := same_upd (o := .lst xs) nL
            have sPL := sPr.trans sL
            have hL : upd (upd H1 Pr (.lst [])) L (.lst xs) L = some (.lst xs) := upd_same
            have nPL : L ≠ Pr := fun z => by
              subst z
              rw [upd_same] at nL
              cases nL
            have hPr : upd (upd H1 Pr (.lst [])) L (.lst xs) Pr = some (.lst []) := by
              rw [upd_ne (Ne.symm nPL)]
              exact upd_same
            generalize upd (upd H1 Pr (.lst [])) L (.lst xs) = H2 at sPL hL hPr
            refine ⟨L, xs, rfl, .inl ⟨.inl (.inl hL), RT.for_Itv (K := K) (a := L) (xs := xs) (fun j σ H' => ∃ (at_ : Nat) (qs row' : List Pl) (zs : List V) (ls : List Addr) (y4 y5 : Option V), σ = [some (.ref t), some (.int (at_ : Nat)), some (.str w), some (.ref Pr), y4, y5] ∧ Same H1 H' ∧ H' L = some (.lst xs) ∧ H' Pr = some (.lst zs) ∧ zs.length = j ∧ j ≤ ps.length ∧ PlsF H' qs zs.reverse ls ∧ (∀ a ∈ ls, H1 a = none) ∧ Pr ∉ ls ∧ (rowsOf (wayL (ps.take (ps.length - j))))[at_]? = some row' ∧ row = row' ++ qs) ⟨i, [], row, [], [], none, none, rfl, sPL, hL, hPr, rfl, Nat.zero_le _, ⟨rfl, rfl⟩, (fun a ha => nomatch ha), (fun z => nomatch z), by rw [Nat.sub_zero, List.take_length]; exact er, (List.append_nil row).symm⟩ (fun j σ H' ⟨_, _, _, _, _, _, _, _, _, h, _⟩ => .inl (.inl h)) ?_ ?_⟩⟩
            · rintro j x σ H3 hj hv ⟨at_, qs, row', zs, ls, y4, y5, rfl, s3, hL3, hPr3, lz, jl, RF, fr, nin, e3, e4⟩
              have hjl : j < ps.length := by omega
              obtain ⟨c, ec⟩ : ∃ c, ps[ps.length - 1 - j]? = some c := ⟨_, List.getElem?_eq_getElem (by omega)⟩
              have hm := List.mem_of_getElem? ec
              have cdp := dpL_mem hm
              have clc := lcS_mem hm
              have hc := (h4.get (i := ps.length - 1 - j) (by rw [← lx]; exact hv) ec).same s3
              have okc := okL_mem ok.2.2.2 hm
              rw [show ps.length - j = (ps.length - 1 - j) + 1 by omega] at e3
              have pos : 0 < c.rc := by
                rcases Nat.eq_zero_or_pos c.rc with h0 | h0
                · exfalso
                  have hlt := (List.getElem?_eq_some_iff.mp e3).1
                  rw [rows_len, rcP_step ec, h0, Nat.mul_zero] at hlt
                  exact Nat.not_lt_zero _ hlt
                · exact h0
              obtain ⟨r0, y, f1, f2, f3⟩ := rows_at' ec pos e3
              refine ⟨_, rfl, _, rfl, x, c, rfl, hc, okc, by omega, by omega, fun H4 s4 => ⟨_, _, rfl, ⟨by omega, by have := rc_12 okc (by omega); omega⟩, fun tu ntu => ?_⟩⟩
              have st := s4.trans (same_upd (o := .tup [.int ((at_ : Int) / (c.rc : Int)), .int ((at_ : Int) % (c.rc : Int))]) ntu)
              refine ⟨tu, _, rfl, .inl (.inl upd_same), rfl, _, _, rfl, _, _, rfl, rfl, ?_⟩
              generalize upd H4 tu (.tup [.int ((at_ : Int) / (c.rc : Int)), .int ((at_ : Int) % (c.rc : Int))]) = H5 at st ⊢
              have hPr5 := st _ _ hPr3
              refine ⟨_, rfl, .inl ⟨rfl, _, .inl (.inl hPr5)⟩, _, rfl, _, rfl, x, c, y, at_ % c.rc, ?_, hc.same st, okc, by omega, by omega, f2, fun u H6 s6 N => ?_⟩
              · show [x, V.int ((at_ : Int) % (c.rc : Int))] = [x, V.int ((at_ % c.rc : Nat) : Int)]
                rw [Int.natCast_emod]
              obtain ⟨ks, N1, N2⟩ := N
              have hPr6 := s6 _ _ hPr5
              refine ⟨Pr, zs, u, rfl, rfl, hPr6, small1000 (by omega), ?_⟩
              have s36 := st.trans s6
              have RF6 := RF.same s36
              have nk : Pr ∉ ks := fun h => by
                have := N2 Pr h
                rw [hPr5] at this
                cases this
              have dj : ∀ a ∈ ks, a ∉ ls := fun a ha hl => by
                obtain ⟨ys, hy⟩ := RF.lsts a hl
                have := N2 a ha
                rw [st _ _ hy] at this
                cases this
              have O : Off [Pr] H6 (upd H6 Pr (.lst (zs ++ [u]))) := fun b o hb hn => by
                rw [upd_ne (fun z => hn (by rw [z]; exact List.mem_cons_self))]
                exact hb
              have LP : Lsts H6 [Pr] := fun a ha => by
                rw [List.mem_singleton.mp ha]
                exact ⟨_, hPr6⟩
              have nPr1 : H1 Pr = none := nPr
              refine ⟨at_ / c.rc, y :: qs, r0, zs ++ [u], ks ++ ls, some x, some (.int ((at_ : Int) % (c.rc : Int))), ?_, ?_, ?_, upd_same, by rw [List.length_append, lz]; rfl, by omega, ?_, fun a ha => ?_, fun h => ?_, ?_, ?_⟩
              · rw [show ((at_ / c.rc : Nat) : Int) = (at_ : Int) / (c.rc : Int) from Int.natCast_ediv _ _]
                rfl
              · exact same_put (s3.trans s36) nPr1
              · rw [upd_ne nPL]
                exact s36 _ _ hL3
              · rw [List.reverse_append]
                exact PlsF.cons' (N1.off O LP fun a ha h => nk (by rw [List.mem_singleton.mp h] at ha; exact ha)) (RF6.off O LP fun a ha h => nin (by rw [List.mem_singleton.mp h] at ha; exact ha)) dj
              · rcases List.mem_append.mp ha with ha | ha
                · exact (s3.trans st).free (N2 a ha)
                · exact fr a ha
              · rcases List.mem_append.mp h with h | h
                · exact nk h
                · exact nin h
              · rw [show ps.length - (j + 1) = ps.length - 1 - j by omega]
                exact f1
              · rw [e4, f3, List.append_assoc]
                rfl
            · rintro σ H3 ⟨at_, qs, row', zs, ls, y4, y5, rfl, s3, hL3, hPr3, lz, jl, RF, fr, nin, e3, e4⟩
              rw [lx, Nat.sub_self, List.take_zero] at e3
              have e3 : ([[]] : List (List Pl))[at_]? = some row' := e3
              have e0 : row' = [] := by
                have := List.mem_of_getElem? e3
                rw [List.mem_singleton] at this
                exact this
              rw [e0, List.nil_append] at e4
              subst e4
              refine ⟨_, rfl, _, rfl, Pr, zs, rfl, .inl (.inl hPr3), fun l2 nl2 => ⟨(by show 2 ≤ sizeLine; decide), fun t2 nt2 => ?_⟩⟩
              have sl := same_upd (o := .lst zs.reverse) nl2
              have st := same_upd (o := .tup [.str w, .ref l2]) nt2
              have sA := sl.trans st
              refine q _ _ ((sg.trans s3).trans sA) ⟨l2 :: ls, ⟨t2, l2, zs.reverse, ls, rfl, upd_same, st _ _ upd_same, RF.same sA, rfl, fun h => ?_⟩, fun a ha => ?_⟩
              · obtain ⟨ys, hy⟩ := RF.lsts l2 h
                rw [nl2] at hy
                cases hy
              · rcases List.mem_cons.mp ha with rfl | ha
                · exact sg.free (s3.free nl2)
                · exact sg.free (fr a ha)
/-! ### readings -/
def sp_readings : Sp := fun vs H Q _ => ∃ (v : V) (p : Pl), vs = [v] ∧ PlAt H p v ∧ p.ok ∧ p.gf = true ∧ p.dp ≤ 6 ∧ p.lc ≤ 12 ∧ p.rc ≤ 64 ∧ ∀ (D : Addr) (xs : List V) (ls : List Addr) (H' : Hp), Same H H' → H D = none → H' D = some (.lst xs) → PlsF H' p.ways xs ls → (∀ a ∈ ls, H a = none) → D ∉ ls → Q (.ref D) H'
theorem cal_readings (T : Tp K mg) : Cal P w K mg base 15 "readings" sp_readings := by
  obtain ⟨fd, F⟩ := f_readings T
  refine cal_of F (g_readings T) (b_readings F) sc_readings (fun vs H Q E h => ?_) (fun cdv A outer s H vs Q E hr h => ?_)
  · obtain ⟨v, p, rfl, _⟩ := h
    rfl
  · obtain ⟨v, p, rfl, hp, ok, gf, dp, lc, rc, q⟩ := h
    refine ⟨_, (pss_cons (ps_expr (C8.pe_c (cal_need_plan T) hr (by decide) rfl (pa_cons (pv 0) pa_nil)))
      (pss_one (ps_ret (pe_lc (own := [("at", 1)]) (g := gName 1) (tt := tYes) rfl sc_readings.nd (pi_range1 rfl (z_range T) (pa_cons (C8.pe_c (cal_rcount T 6) hr (by decide) rfl (pa_cons (pv 0) pa_nil)) pa_nil)) (blkOk_by (N := N_readings) (sc := defScope s_readings) (by decide +kernel)) (fun _ _ _ _ _ => (pg_name (i := 1) sc_readings.nd rfl (.inl rfl))) (fun _ _ _ _ _ => pts_nil) (fun _ _ _ _ _ => (C8.pe_c (cal_read T 6) hr (by decide) rfl (pa_cons (pv 0) (pa_cons (pv 1) pa_nil)))))))), ?_⟩
    refine ⟨_, rfl, v, p, rfl, hp, ok, gf, dp, lc, rc, fun H1 s1 => ?_⟩
    refine ⟨_, rfl, v, p, rfl, hp.same s1, ok, dp, lc, fun H2 s2 => ⟨(p.rc : Int), rfl, by omega, by omega, fun D nD => ?_⟩⟩
    have s12 := s1.trans s2
    have hwl : p.ways.length = p.rc := ways_len
    refine lc_range (lo := 0) (n := ((p.rc : Nat) : Int).toNat) (fun i H3 => ∃ (acc : List V) (ls : List Addr), Same H2 H3 ∧ H3 D = some (.lst acc) ∧ acc.length = i ∧ PlsF H3 (p.ways.take i) acc ls ∧ (∀ a ∈ ls, H2 a = none) ∧ D ∉ ls) ⟨[], [], same_upd nD, upd_same, rfl, ⟨rfl, rfl⟩, (fun a ha => nomatch ha), fun z => nomatch z⟩ ?_ ?_
    · rintro i H3 hi ⟨acc, ls, s3, d3, la, RF, fr, nin⟩
      have hi' : i < p.ways.length := by omega
      obtain ⟨y, ey⟩ : ∃ y, p.ways[i]? = some y := ⟨_, List.getElem?_eq_getElem hi'⟩
      refine ⟨rfl, yes_i (iteT ⟨_, rfl, _, rfl, v, p, y, i, ?_, (hp.same s12).same s3, ok, dp, lc, ey, fun u H4 s4 N => ?_⟩)⟩
      · show [v, V.int (0 + (i : Nat))] = [v, V.int (i : Nat)]
        rw [Int.zero_add]
      obtain ⟨ks, N1, N2⟩ := N
      have d4 := s4 _ _ d3
      have nk : D ∉ ks := fun h => by
        have := N2 D h
        rw [d3] at this
        cases this
      have dj : ∀ a ∈ ls, a ∉ ks := fun a hl ha => by
        obtain ⟨ys, hy⟩ := RF.lsts a hl
        have := N2 a ha
        rw [hy] at this
        cases this
      have O : Off [D] H4 (upd H4 D (.lst (acc ++ [u]))) := fun b o hb hn => by
        rw [upd_ne (fun z => hn (by rw [z]; exact List.mem_cons_self))]
        exact hb
      have LP : Lsts H4 [D] := fun a ha => by
        rw [List.mem_singleton.mp ha]
        exact ⟨_, d4⟩
      refine ⟨acc, d4, small1000 (by omega), acc ++ [u], ls ++ ks, same_put (s3.trans s4) nD, upd_same, by rw [List.length_append, la]; rfl, ?_, fun a ha => ?_, fun h => ?_⟩
      · rw [List.take_add_one, ey]
        exact PlsF.snoc (N1.off O LP fun a ha h => nk (by rw [List.mem_singleton.mp h] at ha; exact ha)) ((RF.same s4).off O LP fun a ha h => nin (by rw [List.mem_singleton.mp h] at ha; exact ha)) dj
      · rcases List.mem_append.mp ha with ha | ha
        · exact fr a ha
        · exact s3.free (N2 a ha)
      · rcases List.mem_append.mp h with h | h
        · exact nin h
        · exact nk h
    · rintro H3 ⟨acc, ls, s3, d3, la, RF, fr, nin⟩
      rw [show ((p.rc : Nat) : Int).toNat = p.ways.length by omega, List.take_length] at RF
      exact q D acc ls H3 (s12.trans s3) (s12.free nD) d3 RF (fun a ha => s12.free (fr a ha)) nin
end
end Tw

set_option maxHeartbeats 4000000
namespace Tw
open PySem PySem.Spec PyProof.Rows L2
/-! the law's own of plans -/
theorem off_sb {f : Addr} {H H' : Hp} (s : Sb f H H') : Off [f] H H' := fun b o e n => s b o e fun z => n (by rw [z]; exact List.mem_cons_self)
theorem PlF.sb {f : Addr} {H H' : Hp} {p : Pl} {v : V} {ls : List Addr} {zs : List V} (h : PlF H p v ls) (s : Sb f H H') (hf : H f = some (.lst zs)) (n : f ∉ ls) : PlF H' p v ls :=
  h.off (off_sb s) (fun a ha => by rw [List.mem_singleton.mp ha]; exact ⟨_, hf⟩) fun a ha z => n (by rw [List.mem_singleton.mp z] at ha; exact ha)
theorem PlsF.sb {f : Addr} {H H' : Hp} {p : List Pl} {v : List V} {ls : List Addr} {zs : List V} (h : PlsF H p v ls) (s : Sb f H H') (hf : H f = some (.lst zs)) (n : f ∉ ls) : PlsF H' p v ls :=
  h.off (off_sb s) (fun a ha => by rw [List.mem_singleton.mp ha]; exact ⟨_, hf⟩) fun a ha z => n (by rw [List.mem_singleton.mp z] at ha; exact ha)
theorem sb_free {f : Addr} {H H' : Hp} {a : Addr} (s : Sb f H H') (n : H' a = none) (h : a ≠ f) : H a = none := by
  cases e : H a with
  | none => rfl
  | some o =>
    rw [s a o e h] at n
    cases n
/-- the words that are drawn from -/
def WdsOk (ws : List Str) : Prop := 0 < ws.length ∧ ws.length ≤ 10 ∧ ∀ z ∈ ws, manyW z ∨ z = "within"
section
variable {P : Program} {w : World} {K : PySem.W.Frag} {mg : Str → Option Value} {base : Heap}
/-! ### _law_leaf, _law_plan -/
def sp_leaf : Sp := fun vs H Q _ => ∃ (f c : Addr) (far : Int), vs = [.ref f, .int far] ∧ Flow H f c ∧ 0 < far ∧ far ≤ 1000000 ∧ ∀ (t : Addr) (q : Pl) (H' : Hp), Sb f H H' → Flow H' f c → PlF H' q (.ref t) [] → q.ok → q.dp = 1 → Q (.ref t) H'
theorem cal__law_leaf (T : Tp K mg) : Cal P w K mg base 3 "_law_leaf" sp_leaf := by
  obtain ⟨fd, F⟩ := f__law_leaf T
  refine cal_of F (g__law_leaf T) (b__law_leaf F) sc__law_leaf (fun vs H Q E h => ?_) (fun cdv A outer s H vs Q E hr h => ?_)
  · obtain ⟨f, c, far, rfl, _⟩ := h
    rfl
  · obtain ⟨f, c, far, rfl, FL, f0, f1, q⟩ := h
    refine ⟨_, (pss_cons (ps_if (pt_cmpR op_eq (C8.pe_c (cal__law_draw T) hr (by decide) rfl (pa_cons (pv 0) (pa_cons pe_int pa_nil))) pe_int (nomark _)) (pss_cons (ps_set (i := 2) sc__law_leaf.nd rfl (.inl rfl) (C8.pe_c (cal__law_draw T) hr (by decide) rfl (pa_cons (pv 0) (pa_cons (pv 1) pa_nil))))
        (pss_one (ps_ret (pe_tup (pa_cons pe_str (pa_cons (pv 2) (pa_cons (pe_op op_add (pv 2) (C8.pe_c (cal__law_draw T) hr (by decide) rfl (pa_cons (pv 0) (pa_cons (pv 1) pa_nil)))) pa_nil))))))) pss_nil)
      (pss_cons (ps_set (i := 2) sc__law_leaf.nd rfl (.inl rfl) (pe_op op_add pe_int (C8.pe_c (cal__law_draw T) hr (by decide) rfl (pa_cons (pv 0) (pa_cons (pv 1) pa_nil)))))
      (pss_cons (ps_set (i := 3) sc__law_leaf.nd rfl (.inl rfl) (pe_ix ix_list (pe_lst (pa_cons pe_int (pa_cons pe_int (pa_cons pe_non (pa_cons (pe_op op_add pe_int (C8.pe_c (cal__law_draw T) hr (by decide) rfl (pa_cons (pv 0) (pa_cons (pv 1) pa_nil)))) pa_nil))))) (C8.pe_c (cal__law_draw T) hr (by decide) rfl (pa_cons (pv 0) (pa_cons pe_int pa_nil))) (fun _ _ => rfl)))
      (pss_one (ps_ret (pe_tup (pa_cons pe_str (pa_cons (pv 2) (pa_cons (pe_op op_add (pv 2) (C8.pe_c (cal__law_draw T) hr (by decide) rfl (pa_cons (pv 0) (pa_cons (pv 1) pa_nil)))) (pa_cons (pv 3) pa_nil)))))))))), ?_⟩
    refine ⟨_, rfl, f, c, 2, rfl, FL, by decide, by decide, fun v1 H1 a1 b1 sb1 F1 => ⟨rfl, _, rfl, ite2 (fun _ => ?_) (fun _ => ?_)⟩⟩
    · refine ⟨_, rfl, _, rfl, f, c, far, rfl, F1, f0, by omega, fun v2 H2 a2 b2 sb2 F2 => ?_⟩
      refine ⟨_, rfl, _, rfl, _, rfl, _, rfl, f, c, far, rfl, F2, f0, by omega, fun v3 H3 a3 b3 sb3 F3 => ⟨v2, v3, rfl, rfl, (by show 3 ≤ sizeLine; decide), fun t nt => ?_⟩⟩
      have st := same_upd (o := .tup [.str "ours", .int v2, .int (v2 + v3)]) nt
      exact q t (.ours v2 (v2 + v3)) _ (((sb1.trans sb2).trans sb3).trans (Sb.of st)) (F3.same st) ⟨rfl, t, rfl, upd_same⟩ True.intro rfl
    · refine ⟨_, rfl, _, rfl, f, c, far, rfl, F1, f0, by omega, fun v2 H2 a2 b2 sb2 F2 => ⟨1, v2, rfl, rfl, ?_⟩⟩
      refine ⟨_, rfl, _, rfl, f, c, far, rfl, F2, f0, by omega, fun v3 H3 a3 b3 sb3 F3 => ⟨1, v3, rfl, rfl, (by show 4 ≤ sizeLine; decide), fun g ng => ?_⟩⟩
      have sg := same_upd (o := .lst [.int 0, .int 0, .non, .int (1 + v3)]) ng
      refine ⟨_, rfl, f, c, 4, rfl, F3.same sg, by decide, by decide, fun v4 H4 a4 b4 sb4 F4 => ?_⟩
      obtain ⟨zs, hf⟩ := F3.lst
      have gf : g ≠ f := (ne_of_none hf ng).symm
      obtain ⟨la, hla⟩ : ∃ la : Option Int, atI ([.int 0, .int 0, .non, .int (1 + v3)] : List V) v4 = some (oV la) := by
        have : v4 = 0 ∨ v4 = 1 ∨ v4 = 2 ∨ v4 = 3 := by omega
        rcases this with rfl | rfl | rfl | rfl
        · exact ⟨some 0, rfl⟩
        · exact ⟨some 0, rfl⟩
        · exact ⟨none, rfl⟩
        · exact ⟨some (1 + v3), rfl⟩
      refine ⟨g, _, v4, oV la, rfl, rfl, .inl (.inl (sb4 _ _ upd_same gf)), hla, ?_⟩
      refine ⟨_, rfl, _, rfl, _, rfl, _, rfl, f, c, far, rfl, F4, f0, by omega, fun v5 H5 a5 b5 sb5 F5 => ⟨1 + v2, v5, rfl, rfl, _, rfl, (by show 4 ≤ sizeLine; decide), fun t nt => ?_⟩⟩
      have st := same_upd (o := .tup [.str "weather", .int (1 + v2), .int (1 + v2 + v5), oV la]) nt
      exact q t (.wthr (1 + v2) (1 + v2 + v5) la) _ ((((((sb1.trans sb2).trans sb3).trans (Sb.of sg)).trans sb4).trans sb5).trans (Sb.of st)) (F5.same st) ⟨rfl, t, rfl, upd_same⟩ True.intro rfl
def sp_plan (n : Nat) : Sp := fun vs H Q _ => ∃ (f c wl : Addr) (b : Nat) (far : Int) (ws : List Str), vs = [.ref f, .int (b : Nat), .ref wl, .int far] ∧ Flow H f c ∧ b < n ∧ 0 < far ∧ far ≤ 1000 ∧ H wl = some (.lst (ws.map V.str)) ∧ wl ≠ f ∧ WdsOk ws ∧
  ∀ (u : V) (q : Pl) (ls : List Addr) (H' : Hp), Sb f H H' → Flow H' f c → PlF H' q u ls → (∀ a ∈ ls, H a = none) → q.ok → q.dp ≤ max b 1 → Q u H'
theorem cal_plan (T : Tp K mg) : ∀ n : Nat, Cal P w K mg base (n + 4) "_law_plan" (sp_plan n)
  | 0 => by
    obtain ⟨fd, F⟩ := f__law_plan T
    refine cal_of F (g__law_plan T) (b__law_plan F) sc__law_plan (fun vs H Q E h => ?_) (fun cdv A outer s H vs Q E hr h => ?_)
    · obtain ⟨f, c, wl, b, far, ws, rfl, _⟩ := h
      rfl
    · obtain ⟨f, c, wl, b, far, ws, _, _, bn, _⟩ := h
      omega
  | n + 1 => by
    have ih := cal_plan T n
    obtain ⟨fd, F⟩ := f__law_plan T
    refine cal_of F (g__law_plan T) (b__law_plan F) sc__law_plan (fun vs H Q E h => ?_) (fun cdv A outer s H vs Q E hr h => ?_)
    · obtain ⟨f, c, wl, b, far, ws, rfl, _⟩ := h
      rfl
    · obtain ⟨f, c, wl, b, far, ws, rfl, FL, bn, f0, f1, hw, wf, ok, q⟩ := h
      have k := ok.2.1
      have lw : (ws.map V.str).length = ws.length := List.length_map _
      obtain ⟨zs0, hf⟩ := FL.lst
      refine ⟨_, (pss_cons (ps_set (i := 4) sc__law_plan.nd rfl (.inl rfl) (C8.pe_c (cal__law_draw T) hr (by omega) rfl (pa_cons (pv 0) (pa_cons (pe_op op_add pe_int (pe_callB call_len_seq (by rfl) (z_len T) bb_len (pa_cons (pv 2) pa_nil))) pa_nil))))
      (pss_cons (ps_if (PW.pt (pw_or (pt_cmpR op_lt (pv 1) pe_int (nomark _)) (pw_or1 (pt_cmpR op_lt (pv 4) pe_int (nomark _))))) (pss_one (ps_ret (C8.pe_c (cal__law_leaf T) hr (by omega) rfl (pa_cons (pv 0) (pa_cons (pv 3) pa_nil))))) pss_nil)
      (pss_cons (ps_set (i := 5) sc__law_plan.nd rfl (.inl rfl) (pe_ix ix_list (pv 2) (pe_op op_sub (pv 4) pe_int) (fun _ _ => rfl)))
      (pss_cons (ps_if (pt_cmpR op_eq (pv 5) pe_str (nomark _)) (pss_one (ps_ret (pe_tup (pa_cons (pv 5) (pa_cons (C8.pe_c (cal__law_draw T) hr (by omega) rfl (pa_cons (pv 0) (pa_cons (pe_op op_mul pe_int (pv 3)) pa_nil))) (pa_cons (C8.pe_c ih hr (Nat.le_refl _) rfl (pa_cons (pv 0) (pa_cons (pe_op op_sub (pv 1) pe_int) (pa_cons (pv 2) (pa_cons (pv 3) pa_nil))))) pa_nil)))))) pss_nil)
      (pss_cons (ps_set (i := 6) sc__law_plan.nd rfl (.inl rfl) (pe_op op_add pe_int (C8.pe_c (cal__law_draw T) hr (by omega) rfl (pa_cons (pv 0) (pa_cons pe_int pa_nil)))))
      (pss_one (ps_ret (pe_tup (pa_cons (pv 5) (pa_cons (pe_lc (own := [("_law_k", 7)]) (g := gName 7) (tt := tYes) rfl sc__law_plan.nd (pi_range1 rfl (z_range T) (pa_cons (pv 6) pa_nil)) (blkOk_by (N := N__law_plan) (sc := defScope s__law_plan) (by decide +kernel)) (fun _ _ _ _ _ => (pg_name (i := 7) sc__law_plan.nd rfl (.inl rfl))) (fun _ _ _ _ _ => pts_nil) (fun _ _ _ _ _ => (C8.pe_c ih hr (Nat.le_refl _) rfl (pa_cons (pv 0) (pa_cons (pe_op op_sub (pv 1) pe_int) (pa_cons (pv 2) (pa_cons (pv 3) pa_nil))))))) pa_nil)))))))))), ?_⟩
      refine ⟨_, rfl, _, rfl, wl, _, rfl, .inl (.inl (.inl hw)), 2, _, rfl, rfl, f, c, _, rfl, FL, by omega, by omega, fun v1 H1 a1 b1 sb1 F1 => ?_⟩
      refine ⟨_, rfl, _, _, rfl, rfl, _, rfl, ?_⟩
      by_cases lo : b < 2
      · rw [decide_eq_true (show ((b : Nat) : Int) < 2 by omega)]
        exact iteT (iteT ⟨_, rfl, _, rfl, f, c, far, rfl, F1, f0, by omega, fun t q' H2 sb2 F2 hp ok' dp => q _ q' [] H2 (sb1.trans sb2) F2 hp (fun a ha => nomatch ha) ok' (by omega)⟩)
      rw [decide_eq_false (show ¬ ((b : Nat) : Int) < 2 by omega)]
      refine iteF ⟨_, rfl, _, _, rfl, rfl, _, rfl, ?_⟩
      by_cases lv : v1 < 2
      · rw [decide_eq_true lv]
        exact iteT ⟨_, rfl, _, rfl, f, c, far, rfl, F1, f0, by omega, fun t q' H2 sb2 F2 hp ok' dp => q _ q' [] H2 (sb1.trans sb2) F2 hp (fun a ha => nomatch ha) ok' (by omega)⟩
      rw [decide_eq_false lv]
      have hw1 := sb1 _ _ hw wf
      obtain ⟨i, ei⟩ : ∃ i : Nat, v1 - 2 = (i : Int) := ⟨(v1 - 2).toNat, by omega⟩
      obtain ⟨z, ez⟩ : ∃ z, ws[i]? = some z := ⟨_, List.getElem?_eq_getElem (by omega)⟩
      have hz := ok.2.2 z (List.mem_of_getElem? ez)
      refine iteF ⟨_, rfl, _, rfl, v1, 2, rfl, rfl, wl, _, v1 - 2, .str z, rfl, rfl, .inl (.inl hw1), by rw [ei]; exact atI_nat (j := i) (by rw [List.getElem?_map, ez]; rfl), ?_⟩
      obtain ⟨b', rfl⟩ : ∃ b', b = b' + 1 := ⟨b - 1, by omega⟩
      have eb : ((b' + 1 : Nat) : Int) - 1 = (b' : Nat) := by omega
      refine ⟨_, rfl, rfl, _, rfl, ?_⟩
      by_cases cz : z = "within"
      · rw [decide_eq_true (show V.str z = V.str "within" by rw [cz])]
        refine iteT ⟨_, rfl, _, rfl, _, rfl, 5, far, rfl, rfl, .inl ⟨by decide, by decide⟩, f, c, 5 * far, rfl, F1, by omega, by omega, fun v2 H2 a2 b2 sb2 F2 => ?_⟩
        refine ⟨_, rfl, _, rfl, _, 1, rfl, rfl, _, rfl, _, rfl, f, c, wl, b', far, ws, ?_, F2, by omega, f0, f1, sb2 _ _ hw1 wf, wf, ok, fun u q' ls H3 sb3 F3 hp fr ok' dp => ⟨(by show 3 ≤ sizeLine; decide), fun t nt => ?_⟩⟩
        · show [V.ref f, V.int (((b' + 1 : Nat) : Int) - 1), V.ref wl, V.int far] = _
          rw [eb]
        have st := same_upd (o := .tup [.str z, .int v2, u]) nt
        have nf : ∀ a ∈ ls, a ≠ f := fun a ha z => by
          have := fr a ha
          obtain ⟨ys, hy⟩ := F2.lst
          rw [z, hy] at this
          cases this
        subst cz
        exact q (.ref t) (.wthn v2 q') ls _ (((sb1.trans sb2).trans sb3).trans (Sb.of st)) (F3.same st) ⟨t, u, rfl, upd_same, hp.same st⟩ (fun a ha => sb_free (sb1.trans sb2) (fr a ha) (nf a ha)) ok' (by show q'.dp + 1 ≤ _; omega)
      · rw [decide_eq_false (show ¬ V.str z = V.str "within" from fun e => cz (V.str.inj e))]
        have mw : manyW z := hz.resolve_right cz
        refine iteF ⟨_, rfl, f, c, 3, rfl, F1, by decide, by decide, fun v2 H2 a2 b2 sb2 F2 => ⟨1, v2, rfl, rfl, ?_⟩⟩
        have sb12 := sb1.trans sb2
        have hw2 := sb2 _ _ hw1 wf
        obtain ⟨ys2, hf2⟩ := F2.lst
        refine ⟨_, rfl, _, rfl, 1 + v2, rfl, by omega, by omega, fun D nD => ?_⟩
        have fD : f ≠ D := ne_of_none hf2 nD
        have wD : wl ≠ D := ne_of_none hw2 nD
        obtain ⟨cs, hc2⟩ := F2.cells
        have cD : c ≠ D := ne_of_none hc2 nD
        refine lc_range (lo := 0) (n := (1 + v2).toNat) (fun i H3 => ∃ (acc : List V) (qs : List Pl) (ls : List Addr), Sb f H2 H3 ∧ Flow H3 f c ∧ H3 D = some (.lst acc) ∧ qs.length = i ∧ PlsF H3 qs acc ls ∧ (∀ a ∈ ls, H2 a = none) ∧ D ∉ ls ∧ f ∉ ls ∧ okL qs ∧ dpL qs ≤ max b' 1) ⟨[], [], [], Sb.of (same_upd nD), F2.same (same_upd nD), upd_same, rfl, ⟨rfl, rfl⟩, (fun a ha => nomatch ha), (fun z => nomatch z), (fun z => nomatch z), True.intro, Nat.zero_le _⟩ ?_ ?_
        · rintro i H3 hi ⟨acc, qs, ls, sb3, F3, d3, lq, RF, fr, nin, nf, okq, dq⟩
          have lacc : acc.length = qs.length := RF.len
          refine ⟨rfl, yes_i (iteT ⟨_, rfl, _, rfl, _, 1, rfl, rfl, _, rfl, _, rfl, f, c, wl, b', far, ws, ?_, F3, by omega, f0, f1, sb3 _ _ hw2 wf, wf, ok, fun u q' ks H4 sb4 F4 hp fk ok' dp => ?_⟩)⟩
          · show [V.ref f, V.int (((b' + 1 : Nat) : Int) - 1), V.ref wl, V.int far] = _
            rw [eb]
          obtain ⟨ys3, hf3⟩ := F3.lst
          have d4 := sb4 _ _ d3 fD.symm
          have nkD : D ∉ ks := fun h => by
            have := fk D h
            rw [d3] at this
            cases this
          have nkf : f ∉ ks := fun h => by
            have := fk f h
            rw [hf3] at this
            cases this
          have dj : ∀ a ∈ ls, a ∉ ks := fun a hl ha => by
            obtain ⟨ys, hy⟩ := RF.lsts a hl
            have := fk a ha
            rw [hy] at this
            cases this
          have O : Off [D] H4 (upd H4 D (.lst (acc ++ [u]))) := fun b o hb hn => by
            rw [upd_ne (fun z => hn (by rw [z]; exact List.mem_cons_self))]
            exact hb
          have LP : Lsts H4 [D] := fun a ha => by
            rw [List.mem_singleton.mp ha]
            exact ⟨_, d4⟩
          have sbD : Sb f H2 (upd H4 D (.lst (acc ++ [u]))) := fun b o e n => by
            rw [upd_ne (ne_of_none e nD)]
            exact (sb3.trans sb4) b o e n
          refine ⟨acc, d4, small1000 (by omega), acc ++ [u], qs ++ [q'], ls ++ ks, sbD, F4.upd fD cD, upd_same, by rw [List.length_append, lq]; rfl, ?_, fun a ha => ?_, fun h => ?_, fun h => ?_, okL_snoc okq ok', by rw [dpL_snoc]; omega⟩
          · exact PlsF.snoc (hp.off O LP fun a ha h => nkD (by rw [List.mem_singleton.mp h] at ha; exact ha)) ((RF.sb sb4 hf3 nf).off O LP fun a ha h => nin (by rw [List.mem_singleton.mp h] at ha; exact ha)) dj
          · rcases List.mem_append.mp ha with ha | ha
            · exact fr a ha
            · exact sb_free sb3 (fk a ha) (fun z => nkf (by rw [← z]; exact ha))
          · rcases List.mem_append.mp h with h | h
            · exact nin h
            · exact nkD h
          · rcases List.mem_append.mp h with h | h
            · exact nf h
            · exact nkf h
        · rintro H3 ⟨acc, qs, ls, sb3, F3, d3, lq, RF, fr, nin, nf, okq, dq⟩
          refine ⟨(by show 2 ≤ sizeLine; decide), fun t nt => ?_⟩
          have st := same_upd (o := .tup [.str z, .ref D]) nt
          refine q (.ref t) (.many z qs) (D :: ls) _ ((sb12.trans sb3).trans (Sb.of st)) (F3.same st) ⟨t, D, acc, ls, rfl, upd_same, st _ _ d3, RF.same st, rfl, nin⟩ (fun a ha => ?_) ⟨mw, by omega, by omega, okq⟩ (by show dpL qs + 1 ≤ _; omega)
          rcases List.mem_cons.mp ha with rfl | ha
          · exact sb_free sb12 nD fD.symm
          · exact sb_free sb12 (fr a ha) (fun z => nf (by rw [← z]; exact ha))
/-! ### _law_kids -/
/-- a new list, or the plan's own -/
def KidL (H : Hp) (p : Pl) (v : V) (D : Addr) : Prop := H D = none ∨ ∃ t w ps, p = .many w ps ∧ v = .ref t ∧ H t = some (.tup [.str w, .ref D])
def sp_kids : Sp := fun vs H Q _ => ∃ (v : V) (p : Pl), vs = [v] ∧ PlAt H p v ∧ p.ok ∧ ∀ (D : Addr) (H' : Hp), Same H H' → KidL H p v D → KidsAt H' D p → Q (.ref D) H'
theorem cal__law_kids (T : Tp K mg) : Cal P w K mg base 1 "_law_kids" sp_kids := by
  obtain ⟨fd, F⟩ := f__law_kids T
  refine cal_of F (g__law_kids T) (b__law_kids F) sc__law_kids (fun vs H Q E h => ?_) (fun cdv A outer s H vs Q E hr h => ?_)
  · obtain ⟨v, p, rfl, _⟩ := h
    rfl
  · obtain ⟨v, p, rfl, hp, ok, q⟩ := h
    obtain ⟨t, r, rfl, ht⟩ := hp.tup
    refine ⟨_, (pss_cons (ps_if (pt_cmpR op_in_seq (pe_ix ix_tup (pv 0) pe_int (fun _ _ => rfl)) (pe_lst (pa_cons pe_str (pa_cons pe_str pa_nil))) (by rfl)) (pss_one (ps_ret (pe_lst pa_nil))) pss_nil)
      (pss_one (ps_ret (pe_ifExp (pt_cmpR op_eq (pe_ix ix_tup (pv 0) pe_int (fun _ _ => rfl)) pe_str (nomark _)) (pe_lst (pa_cons (pe_ix ix_tup (pv 0) pe_int (fun _ _ => rfl)) pa_nil)) (pe_ix ix_tup (pv 0) pe_int (fun _ _ => rfl)))))), ?_⟩
    refine ⟨_, rfl, t, _, 0, .str p.wd, rfl, rfl, .inl (.inl ht), atI_nat (j := 0) rfl, (by show 2 ≤ sizeLine; decide), fun g ng => ?_⟩
    have sg := same_upd (o := .lst [.str "ours", .str "weather"]) ng
    have hp1 := hp.same sg
    refine ⟨g, [.str "ours", .str "weather"], rfl, .inl (.inl (.inl upd_same)), rfl, rfl, _, rfl, ?_⟩
    show if inV (.str p.wd) [.str "ours", .str "weather"] = true then _ else _
    rw [two_in, show decide (p.wd = "ours" ∨ p.wd = "weather") = leafW p from rfl]
    generalize upd H g (.lst [.str "ours", .str "weather"]) = H1 at sg hp1 ⊢
    cases p with
    | ours a b =>
      rw [leaf_ours]
      exact iteT ⟨Nat.zero_le _, fun D nD => q D _ (sg.trans (same_upd nD)) (.inl (sg.free nD)) ⟨[], upd_same, rfl⟩⟩
    | wthr a b c =>
      rw [leaf_wthr]
      exact iteT ⟨Nat.zero_le _, fun D nD => q D _ (sg.trans (same_upd nD)) (.inl (sg.free nD)) ⟨[], upd_same, rfl⟩⟩
    | wthn n p =>
      obtain ⟨t', u, e1, h2, h3⟩ := hp1
      cases e1
      rw [leaf_wthn]
      refine iteF ⟨_, rfl, t, _, 0, .str "within", rfl, rfl, .inl (.inl h2), atI_nat (j := 0) rfl, rfl, _, rfl, iteT ⟨_, rfl, t, _, 2, u, rfl, rfl, .inl (.inl h2), atI_nat (j := 2) rfl, (by show 1 ≤ sizeLine; decide), fun D nD => ?_⟩⟩
      have sD := same_upd (o := .lst [u]) nD
      exact q D _ (sg.trans sD) (.inl (sg.free nD)) ⟨[u], upd_same, u, [], rfl, h3.same sD, rfl⟩
    | many w ps =>
      obtain ⟨t0, l0, xs0, e0, g2, g3, g4⟩ := hp
      cases e0
      obtain ⟨t', l, xs, e1, h2, h3, h4⟩ := hp1
      cases e1
      have el : l = l0 := by
        rw [sg _ _ g2] at h2
        injection h2 with h2
        injection h2 with h2
        injection h2 with _ h2
        injection h2 with h2 _
        injection h2 with h2
        exact h2.symm
      subst el
      have no := many_no ok.1
      rw [leaf_many ok.1]
      refine iteF ⟨_, rfl, t, _, 0, .str w, rfl, rfl, .inl (.inl h2), atI_nat (j := 0) rfl, rfl, _, rfl, ?_⟩
      rw [decide_eq_false (show ¬ V.str w = V.str "within" from fun e => no.2.2 (V.str.inj e))]
      exact iteF ⟨_, rfl, t, _, 1, .ref l, rfl, rfl, .inl (.inl h2), atI_nat (j := 1) rfl, q l H1 sg (.inr ⟨t, w, ps, rfl, rfl, g2⟩) ⟨xs, h3, h4⟩⟩
theorem kids_nil {p : Pl} (ok : p.ok) : p.kids.isEmpty = leafW p := by
  cases p with
  | ours a b => rw [leaf_ours]; rfl
  | wthr a b c => rw [leaf_wthr]; rfl
  | wthn n p => rw [leaf_wthn]; rfl
  | many w ps =>
    rw [leaf_many ok.1]
    have := ok.2.1
    match ps, this with
    | _ :: _, _ => rfl
/-! ### the law's counts -/
def sp_lleaf (n : Nat) : Sp := fun vs H Q _ => ∃ (v : V) (p : Pl), vs = [v] ∧ PlAt H p v ∧ p.ok ∧ p.dp ≤ n ∧ ∀ (H' : Hp), Same H H' → Q (.int (p.lc : Nat)) H'
theorem cal_lleaf (T : Tp K mg) : ∀ n : Nat, Cal P w K mg base (n + 1) "_law_leaf_count" (sp_lleaf n)
  | 0 => by
    obtain ⟨fd, F⟩ := f__law_leaf_count T
    refine cal_of F (g__law_leaf_count T) (b__law_leaf_count F) sc__law_leaf_count (fun vs H Q E h => ?_) (fun cdv A outer s H vs Q E hr h => ?_)
    · obtain ⟨v, p, rfl, _⟩ := h
      rfl
    · obtain ⟨v, p, _, _, _, d, _⟩ := h
      have := dp_pos p
      omega
  | n + 1 => by
    have ih := cal_lleaf T n
    obtain ⟨fd, F⟩ := f__law_leaf_count T
    refine cal_of F (g__law_leaf_count T) (b__law_leaf_count F) sc__law_leaf_count (fun vs H Q E h => ?_) (fun cdv A outer s H vs Q E hr h => ?_)
    · obtain ⟨v, p, rfl, _⟩ := h
      rfl
    · obtain ⟨v, p, rfl, hp, ok, d, q⟩ := h
      have hu := hu_of hr
      refine ⟨_, (pss_cons (ps_set (i := 1) sc__law_leaf_count.nd rfl (.inl rfl) (C8.pe_c (cal__law_kids T) hr (by omega) rfl (pa_cons (pv 0) pa_nil)))
      (pss_one (ps_ret (pe_ifExp (pt_cmpR (op_eqNil hu) (pv 1) (pe_lst pa_nil) (nomark _)) pe_int (pe_callB (cr_sum rfl) (by rfl) (z_sum T) bb_sum (pa_cons (pe_lc (own := [("_law_one", 2)]) (g := gName 2) (tt := tYes) rfl sc__law_leaf_count.nd (pi_list (pv 1)) (blkOk_by (N := N__law_leaf_count) (sc := defScope s__law_leaf_count) (by decide +kernel)) (fun _ _ _ _ _ => (pg_name (i := 2) sc__law_leaf_count.nd rfl (.inl rfl))) (fun _ _ _ _ _ => pts_nil) (fun _ _ _ _ _ => (C8.pe_c ih hr (Nat.le_refl _) rfl (pa_cons (pv 2) pa_nil)))) pa_nil)))))), ?_⟩
      refine ⟨_, rfl, v, p, rfl, hp, ok, fun L H2 s2 kl ⟨xs, hL, KL⟩ => ?_⟩
      refine ⟨_, rfl, Nat.zero_le _, fun E0 nE => ?_⟩
      have sE := same_upd (o := .lst []) nE
      have hL3 := sE _ _ hL
      have KL3 := KL.same sE
      refine ⟨L, E0, xs, rfl, rfl, .inl (.inl hL3), .inl (.inl upd_same), _, rfl, ?_⟩
      generalize upd H2 E0 (.lst []) = H3 at sE hL3 KL3 ⊢
      have s13 := s2.trans sE
      have lx := KL3.len
      have em : xs.isEmpty = leafW p := by
        rw [← kids_nil ok]
        match xs, p.kids, lx with
        | [], [], _ => rfl
        | _ :: _, _ :: _, _ => rfl
      rw [em]
      cases e : leafW p with
      | true =>
        have el : p.lc = 1 := by
          cases p with
          | ours a b => rfl
          | wthr a b c => rfl
          | wthn n p =>
            rw [leaf_wthn] at e
            cases e
          | many w ps =>
            rw [leaf_many ok.1] at e
            cases e
        have h := q H3 s13
        rw [el] at h
        exact iteT h
      | false =>
        refine iteF ⟨_, rfl, L, rfl, ⟨_, .inl (.inl hL3)⟩, fun D nD => ?_⟩
        have lk := kids_len ok
        refine lc_pure p.kids (walk_listN lx) (fun c => some (c.lc : Int)) (SV V.int) (fun _ h => h) nD (by omega) (fun H s => .inl (.inl (s _ _ hL3))) ?_ ?_
        · rintro i c x H4 _ ec s4 ⟨rfl, hv⟩ Good Bad kt kf
          have hc := KL3.get hv ec
          have hm := List.mem_of_getElem? ec
          exact ⟨rfl, yes_i (iteT ⟨_, rfl, x, c, rfl, hc.same s4, kids_ok ok hm, kids_dp d hm, fun H5 s5 => kt _ _ _ rfl s5 rfl⟩)⟩
        · intro H4 acc s4 d4 p4
          have ea := paired_enc p4
          rw [show (p.kids.filterMap fun c => some (c.lc : Int)) = p.kids.map fun c => (c.lc : Int) from List.filterMap_eq_map ▸ rfl] at ea
          subst ea
          refine ⟨D, _, rfl, .inl (.inl d4), ?_⟩
          have h := q H4 (s13.trans s4)
          rw [lc_kids e, ← lcS_sum] at h
          exact h
theorem dp_kids {p : Pl} : p.dp = dpL p.kids + 1 := by
  cases p with
  | ours a b => rfl
  | wthr a b c => rfl
  | wthn n p =>
    show p.dp + 1 = max p.dp 0 + 1
    omega
  | many w ps => rfl
def sp_ldepth (n : Nat) : Sp := fun vs H Q _ => ∃ (v : V) (p : Pl), vs = [v] ∧ PlAt H p v ∧ p.ok ∧ p.dp ≤ n ∧ ∀ (H' : Hp), Same H H' → Q (.int (p.dp : Nat)) H'
theorem cal_ldepth (T : Tp K mg) : ∀ n : Nat, Cal P w K mg base (n + 1) "_law_plan_depth" (sp_ldepth n)
  | 0 => by
    obtain ⟨fd, F⟩ := f__law_plan_depth T
    refine cal_of F (g__law_plan_depth T) (b__law_plan_depth F) sc__law_plan_depth (fun vs H Q E h => ?_) (fun cdv A outer s H vs Q E hr h => ?_)
    · obtain ⟨v, p, rfl, _⟩ := h
      rfl
    · obtain ⟨v, p, _, _, _, d, _⟩ := h
      have := dp_pos p
      omega
  | n + 1 => by
    have ih := cal_ldepth T n
    obtain ⟨fd, F⟩ := f__law_plan_depth T
    refine cal_of F (g__law_plan_depth T) (b__law_plan_depth F) sc__law_plan_depth (fun vs H Q E h => ?_) (fun cdv A outer s H vs Q E hr h => ?_)
    · obtain ⟨v, p, rfl, _⟩ := h
      rfl
    · obtain ⟨v, p, rfl, hp, ok, d, q⟩ := h
      have hu64 := hr.units
      refine ⟨_, (pss_one (ps_ret (pe_op op_add pe_int (pe_callBK (cr_maxDf rfl hu64) (by rfl) (z_max T) bb_max (pa_cons (pe_lc (own := [("_law_one", 1)]) (g := gName 1) (tt := tYes) rfl sc__law_plan_depth.nd (pi_list (C8.pe_c (cal__law_kids T) hr (by omega) rfl (pa_cons (pv 0) pa_nil))) (blkOk_by (N := N__law_plan_depth) (sc := defScope s__law_plan_depth) (by decide +kernel)) (fun _ _ _ _ _ => (pg_name (i := 1) sc__law_plan_depth.nd rfl (.inl rfl))) (fun _ _ _ _ _ => pts_nil) (fun _ _ _ _ _ => (C8.pe_c ih hr (Nat.le_refl _) rfl (pa_cons (pv 1) pa_nil)))) pa_nil) (pk_cons pe_int pk_nil))))), ?_⟩
      refine ⟨_, rfl, v, p, rfl, hp, ok, fun L H2 s2 kl ⟨xs, hL, KL⟩ => ⟨L, rfl, ⟨_, .inl (.inl hL)⟩, fun D nD => ?_⟩⟩
      have lk := kids_len ok
      refine lc_pure p.kids (walk_listN KL.len) (fun c => some (c.dp : Int)) (SV V.int) (fun _ h => h) nD (by omega) (fun H s => .inl (.inl (s _ _ hL))) ?_ ?_
      · rintro i c x H4 _ ec s4 ⟨rfl, hv⟩ Good Bad kt kf
        have hc := KL.get hv ec
        have hm := List.mem_of_getElem? ec
        exact ⟨rfl, yes_i (iteT ⟨_, rfl, x, c, rfl, hc.same s4, kids_ok ok hm, kids_dp d hm, fun H5 s5 => kt _ _ _ rfl s5 rfl⟩)⟩
      · intro H4 acc s4 d4 p4
        have ea := paired_enc p4
        rw [show (p.kids.filterMap fun c => some (c.dp : Int)) = p.kids.map fun c => (c.dp : Int) from List.filterMap_eq_map ▸ rfl] at ea
        subst ea
        have h := q H4 (s2.trans s4)
        rw [dp_kids] at h
        refine ⟨D, _, 0, rfl, rfl, .inl (.inl d4), fun e => ⟨1, 0, rfl, rfl, ?_⟩, fun y ys e => ⟨1, _, rfl, rfl, ?_⟩⟩
        · have ek : p.kids = [] := List.map_eq_nil_iff.mp e
          rw [ek] at h
          exact h
        · match hk : p.kids, e with
          | c0 :: cs, e =>
            injection e with e1 e2
            subst e1 e2
            rw [hk] at h
            show Q (.int (1 + (cs.map fun c => (c.dp : Int)).foldl max (c0.dp : Int))) H4
            rw [dpL_fold]
            have h : Q (.int ((max c0.dp (dpL cs) + 1 : Nat) : Int)) H4 := h
            rw [show ((max c0.dp (dpL cs) + 1 : Nat) : Int) = 1 + ((max c0.dp (dpL cs) : Nat) : Int) by omega] at h
            exact h
end
end Tw

set_option maxHeartbeats 4000000
namespace Tw
open PySem PySem.Spec PyProof.Rows L2
/-! the law's own of plans: how many readings, whether one is good -/
section
variable {P : Program} {w : World} {K : PySem.W.Frag} {mg : Str → Option Value} {base : Heap}
def sp_lread (n : Nat) : Sp := fun vs H Q _ => ∃ (v : V) (p : Pl), vs = [v] ∧ PlAt H p v ∧ p.ok ∧ p.dp ≤ n ∧ p.lc ≤ 12 ∧ ∀ (H' : Hp), Same H H' → Q (.int (p.rc : Nat)) H'
theorem cal_lread (T : Tp K mg) : ∀ n : Nat, Cal P w K mg base (n + 1) "_law_reading_count" (sp_lread n)
  | 0 => by
    obtain ⟨fd, F⟩ := f__law_reading_count T
    refine cal_of F (g__law_reading_count T) (b__law_reading_count F) sc__law_reading_count (fun vs H Q E h => ?_) (fun cdv A outer s H vs Q E hr h => ?_)
    · obtain ⟨v, p, rfl, _⟩ := h
      rfl
    · obtain ⟨v, p, _, _, _, d, _⟩ := h
      have := dp_pos p
      omega
  | n + 1 => by
    have ih := cal_lread T n
    obtain ⟨fd, F⟩ := f__law_reading_count T
    refine cal_of F (g__law_reading_count T) (b__law_reading_count F) sc__law_reading_count (fun vs H Q E h => ?_) (fun cdv A outer s H vs Q E hr h => ?_)
    · obtain ⟨v, p, rfl, _⟩ := h
      rfl
    · obtain ⟨v, p, rfl, hp, ok, d, few, q⟩ := h
      obtain ⟨t, r, rfl, ht⟩ := hp.tup
      have lk := kids_len ok
      refine ⟨_, (pss_cons (ps_if (pt_cmpR op_eq (pe_ix ix_tup (pv 0) pe_int (fun _ _ => rfl)) pe_str (nomark _)) (pss_one (ps_ret (pe_callB (cr_sum rfl) (by rfl) (z_sum T) bb_sum (pa_cons (pe_lc (own := [("_law_one", 2)]) (g := gName 2) (tt := tYes) rfl sc__law_reading_count.nd (pi_list (pe_ix ix_tup (pv 0) pe_int (fun _ _ => rfl))) (blkOk_by (N := N__law_reading_count) (sc := defScope s__law_reading_count) (by decide +kernel)) (fun _ _ _ _ _ => (pg_name (i := 2) sc__law_reading_count.nd rfl (.inl rfl))) (fun _ _ _ _ _ => pts_nil) (fun _ _ _ _ _ => (C8.pe_c ih hr (Nat.le_refl _) rfl (pa_cons (pv 2) pa_nil)))) pa_nil)))) pss_nil)
      (pss_cons (ps_set (i := 1) sc__law_reading_count.nd rfl (.inl rfl) pe_int)
      (pss_cons (ps_for PassesOwn.never rfl (pi_list (C8.pe_c (cal__law_kids T) hr (by omega) rfl (pa_cons (pv 0) pa_nil))) (pg_name (i := 2) sc__law_reading_count.nd rfl (.inl rfl))
        (pss_one (ps_set (i := 1) sc__law_reading_count.nd rfl (.inl rfl) (pe_op op_mul (pv 1) (C8.pe_c ih hr (Nat.le_refl _) rfl (pa_cons (pv 2) pa_nil))))))
      (pss_one (ps_ret (pv 1)))))), ?_⟩
      refine ⟨_, rfl, t, _, 0, .str p.wd, rfl, rfl, .inl (.inl ht), atI_nat (j := 0) rfl, rfl, _, rfl, ?_⟩
      by_cases ce : p.wd = "either"
      · rw [decide_eq_true (show V.str p.wd = V.str "either" by rw [ce])]
        have er := rc_either ce ok
        cases p with
        | ours a b => exact absurd ce (by show ¬ ("ours" : Str) = "either"; decide +kernel)
        | wthr a b c => exact absurd ce (by show ¬ ("weather" : Str) = "either"; decide +kernel)
        | wthn n p => exact absurd ce (by show ¬ ("within" : Str) = "either"; decide +kernel)
        | many w ps =>
          obtain ⟨t', l, xs, e1, h2, h3, h4⟩ := hp
          cases e1
          refine iteT ⟨_, rfl, t, _, 1, .ref l, rfl, rfl, .inl (.inl h2), atI_nat (j := 1) rfl, l, rfl, ⟨_, .inl (.inl h3)⟩, fun D nD => ?_⟩
          refine lc_pure ps (walk_listN h4.len) (fun c => some (c.rc : Int)) (SV V.int) (fun _ h => h) nD (by show ps.length ≤ 1000; have := ok.2.2.1; omega) (fun H s => .inl (.inl (s _ _ h3))) ?_ ?_
          · rintro i c x H4 _ ec s4 ⟨rfl, hv⟩ Good Bad kt kf
            have hc := h4.get hv ec
            have hm := List.mem_of_getElem? ec
            exact ⟨rfl, yes_i (iteT ⟨_, rfl, x, c, rfl, hc.same s4, kids_ok ok hm, kids_dp d hm, kids_lc ok few hm, fun H5 s5 => kt _ _ _ rfl s5 rfl⟩)⟩
          · intro H4 acc s4 d4 p4
            have ea := paired_enc p4
            rw [show (ps.filterMap fun c => some (c.rc : Int)) = ps.map fun c => (c.rc : Int) from List.filterMap_eq_map ▸ rfl] at ea
            subst ea
            refine ⟨D, _, rfl, .inl (.inl d4), ?_⟩
            have h := q H4 s4
            rw [er, ← rcS_sum] at h
            exact h
      · rw [decide_eq_false (show ¬ V.str p.wd = V.str "either" from fun e => ce (V.str.inj e))]
        refine iteF ⟨_, rfl, _, p, rfl, hp, ok, fun L H2 s2 kl ⟨xs, hL, KL⟩ => ⟨L, rfl, ⟨_, .inl (.inl hL)⟩, ?_⟩⟩
        have lx := KL.len
        refine for_list (K := K) (a := L) (xs := xs) (fun i σ H' => Same H2 H' ∧ ∃ y2 : Option V, σ = [some (.ref t), some (.int (rcP (p.kids.take i) : Nat)), y2]) ⟨Same.refl _, none, rfl⟩ (fun i σ H' _ h => .inl (.inl (h.1 _ _ hL))) ?_ ?_
        · rintro i x σ H4 hv ⟨s4, y2, rfl⟩
          have hi : i < xs.length := (List.getElem?_eq_some_iff.mp hv).1
          obtain ⟨c, ec⟩ : ∃ c, p.kids[i]? = some c := ⟨_, List.getElem?_eq_getElem (by omega)⟩
          have hc := (KL.get hv ec).same s4
          have hm := List.mem_of_getElem? ec
          have em : ((rcP (p.kids.take (i + 1)) : Nat) : Int) = (rcP (p.kids.take i) : Int) * (c.rc : Int) := by
            rw [rcP_step ec]
            exact Int.natCast_mul _ _
          refine ⟨_, rfl, _, rfl, x, c, rfl, hc, kids_ok ok hm, kids_dp d hm, kids_lc ok few hm, fun H5 s5 => ⟨_, _, rfl, rfl, c_mul (rcP_take (okL_kids ok) (lcS_kids few)), s4.trans s5, some x, ?_⟩⟩
          rw [em]
          rfl
        · rintro σ H4 ⟨s4, y2, rfl⟩
          refine ⟨_, rfl, ?_⟩
          have h := q H4 (s2.trans s4)
          rw [rc_prod ce] at h
          rw [lx, List.take_length]
          exact h
/-! ### _law_good_leaf, _law_good_form, _law_good_plan -/
def sp_gleaf : Sp := fun vs H Q _ => ∃ (v : V) (p : Pl), vs = [v] ∧ PlAt H p v ∧ p.ok ∧ leafW p = true ∧ Q (.bl p.gf) H
theorem whB_I {lo hi i : Int} : whB lo hi (.int i) = whI lo hi i := rfl
theorem cal__law_good_leaf (T : Tp K mg) : Cal P w K mg base 3 "_law_good_leaf" sp_gleaf := by
  obtain ⟨fd, F⟩ := f__law_good_leaf T
  refine cal_of F (g__law_good_leaf T) (b__law_good_leaf F) sc__law_good_leaf (fun vs H Q E h => ?_) (fun cdv A outer s H vs Q E hr h => ?_)
  · obtain ⟨v, p, rfl, _⟩ := h
    rfl
  · obtain ⟨v, p, rfl, hp, ok, lf, q⟩ := h
    refine ⟨_, (pss_cons (ps_if (pt_cmpR op_eq (pe_ix ix_tup (pv 0) pe_int (fun _ _ => rfl)) pe_str (nomark _)) (pss_cons (ps_set (i := 1) sc__law_good_leaf.nd rfl (.inl rfl) (pe_and (C8.pe_c (cal__law_whole T) hr (by decide) rfl (pa_cons (pe_ix ix_tup (pv 0) pe_int (fun _ _ => rfl)) (pa_cons pe_int (pa_cons pe_int pa_nil)))) (pe_one (C8.pe_c (cal__law_whole T) hr (by decide) rfl (pa_cons (pe_ix ix_tup (pv 0) pe_int (fun _ _ => rfl)) (pa_cons pe_int (pa_cons pe_int pa_nil)))))))
        (pss_one (ps_ret (pe_and (pv 1) (pe_one (pe_cmpR op_le (pe_ix ix_tup (pv 0) pe_int (fun _ _ => rfl)) (pe_ix ix_tup (pv 0) pe_int (fun _ _ => rfl)) (nomark _))))))) pss_nil)
      (pss_cons (ps_set (i := 1) sc__law_good_leaf.nd rfl (.inl rfl) (pe_and (C8.pe_c (cal__law_whole T) hr (by decide) rfl (pa_cons (pe_ix ix_tup (pv 0) pe_int (fun _ _ => rfl)) (pa_cons pe_int (pa_cons pe_int pa_nil)))) (pe_one (C8.pe_c (cal__law_whole T) hr (by decide) rfl (pa_cons (pe_ix ix_tup (pv 0) pe_int (fun _ _ => rfl)) (pa_cons pe_int (pa_cons pe_int pa_nil)))))))
      (pss_cons (ps_set (i := 1) sc__law_good_leaf.nd rfl (.inl rfl) (pe_and (pv 1) (pe_one (pe_cmpR op_le (pe_ix ix_tup (pv 0) pe_int (fun _ _ => rfl)) (pe_ix ix_tup (pv 0) pe_int (fun _ _ => rfl)) (nomark _)))))
      (pss_one (ps_ret (pe_and (pv 1) (pe_one (pe_or (pe_cmpR op_isN (pe_ix ix_tup (pv 0) pe_int (fun _ _ => rfl)) pe_non (nomark _)) (pe_one (C8.pe_c (cal__law_whole T) hr (by decide) rfl (pa_cons (pe_ix ix_tup (pv 0) pe_int (fun _ _ => rfl)) (pa_cons pe_int (pa_cons pe_int pa_nil))))))))))))), ?_⟩
    cases p with
    | wthn n p =>
      rw [leaf_wthn] at lf
      cases lf
    | many w ps =>
      rw [leaf_many ok.1] at lf
      cases lf
    | ours lo hi =>
      obtain ⟨t, rfl, h2⟩ := hp
      have S : SqT K H t [.str "ours", .int lo, .int hi] := .inl (.inl h2)
      refine ⟨_, rfl, t, _, 0, .str "ours", rfl, rfl, S, atI_nat (j := 0) rfl, rfl, _, rfl, ?_⟩
      rw [eq_str]
      have q : Q (.bl (whI 0 1000 lo && whI 0 1000 hi && decide (lo ≤ hi))) H := q
      refine iteT ⟨_, rfl, t, _, 1, .int lo, rfl, rfl, S, atI_nat (j := 1) rfl, .int lo, 0, 1000, rfl, rfl, _, rfl, ?_⟩
      rw [whB_I]
      cases e1 : whI 0 1000 lo with
      | false =>
        rw [e1] at q
        exact iteF ⟨_, rfl, _, rfl, iteF q⟩
      | true =>
        rw [e1, Bool.true_and] at q
        refine iteT ⟨_, rfl, t, _, 2, .int hi, rfl, rfl, S, atI_nat (j := 2) rfl, .int hi, 0, 1000, rfl, rfl, ?_⟩
        rw [whB_I]
        refine ⟨_, rfl, _, rfl, ?_⟩
        cases e2 : whI 0 1000 hi with
        | false =>
          rw [e2] at q
          exact iteF q
        | true =>
          rw [e2, Bool.true_and] at q
          exact iteT ⟨_, rfl, t, _, 1, .int lo, rfl, rfl, S, atI_nat (j := 1) rfl, _, rfl, t, _, 2, .int hi, rfl, rfl, S, atI_nat (j := 2) rfl, _, _, rfl, rfl, q⟩
    | wthr lo hi la =>
      obtain ⟨t, rfl, h2⟩ := hp
      have S : SqT K H t [.str "weather", .int lo, .int hi, oV la] := .inl (.inl h2)
      refine ⟨_, rfl, t, _, 0, .str "weather", rfl, rfl, S, atI_nat (j := 0) rfl, rfl, _, rfl, ?_⟩
      rw [ne_str (show ¬ ("weather" : Str) = "ours" by decide +kernel)]
      have q : Q (.bl (whI 1 1000 lo && whI 1 1000 hi && decide (lo ≤ hi) && lateB la)) H := q
      refine iteF ⟨_, rfl, t, _, 1, .int lo, rfl, rfl, S, atI_nat (j := 1) rfl, .int lo, 1, 1000, rfl, rfl, _, rfl, ?_⟩
      rw [whB_I]
      cases e1 : whI 1 1000 lo with
      | false =>
        rw [e1] at q
        exact iteF ⟨_, rfl, _, rfl, iteF ⟨_, rfl, _, rfl, iteF q⟩⟩
      | true =>
        rw [e1, Bool.true_and] at q
        refine iteT ⟨_, rfl, t, _, 2, .int hi, rfl, rfl, S, atI_nat (j := 2) rfl, .int hi, 1, 1000, rfl, rfl, ?_⟩
        rw [whB_I]
        refine ⟨_, rfl, _, rfl, ?_⟩
        cases e2 : whI 1 1000 hi with
        | false =>
          rw [e2] at q
          exact iteF ⟨_, rfl, _, rfl, iteF q⟩
        | true =>
          rw [e2, Bool.true_and] at q
          refine iteT ⟨_, rfl, t, _, 1, .int lo, rfl, rfl, S, atI_nat (j := 1) rfl, _, rfl, t, _, 2, .int hi, rfl, rfl, S, atI_nat (j := 2) rfl, _, _, rfl, rfl, ?_⟩
          refine ⟨_, rfl, _, rfl, ?_⟩
          cases e3 : decide (lo ≤ hi) with
          | false =>
            rw [e3] at q
            exact iteF q
          | true =>
            rw [e3, Bool.true_and] at q
            refine iteT ⟨_, rfl, t, _, 3, oV la, rfl, rfl, S, atI_nat (j := 3) rfl, rfl, _, rfl, ?_⟩
            cases la with
            | none =>
              rw [decide_eq_true (show oV none = V.non from rfl)]
              exact iteT q
            | some i =>
              rw [decide_eq_false (show ¬ oV (some i) = V.non from fun z => by cases z)]
              exact iteF ⟨_, rfl, t, _, 3, .int i, rfl, rfl, S, atI_nat (j := 3) rfl, .int i, 0, 1000, rfl, rfl, q⟩
def sz1 : List (Key × V) := [(.inr "ours", .int 3), (.inr "weather", .int 4), (.inr "then", .int 2), (.inr "beside", .int 2), (.inr "either", .int 2), (.inr "within", .int 3)]
/-- how long a plan's tuple is -/
def lenOf : Pl → Nat
  | .ours _ _ => 3
  | .wthr _ _ _ => 4
  | .wthn _ _ => 3
  | .many _ _ => 2
theorem PlAt.tupL {H : Hp} {p : Pl} {v : V} (h : PlAt H p v) : ∃ t r, v = .ref t ∧ H t = some (.tup (.str p.wd :: r)) ∧ (V.str p.wd :: r).length = lenOf p := by
  cases p with
  | ours a b =>
    obtain ⟨t, h1, h2⟩ := h
    exact ⟨t, _, h1, h2, rfl⟩
  | wthr a b c =>
    obtain ⟨t, h1, h2⟩ := h
    exact ⟨t, _, h1, h2, rfl⟩
  | wthn n p =>
    obtain ⟨t, u, h1, h2, _⟩ := h
    exact ⟨t, _, h1, h2, rfl⟩
  | many w ps =>
    obtain ⟨t, l, xs, h1, h2, _⟩ := h
    exact ⟨t, _, h1, h2, rfl⟩
theorem sz1_at {p : Pl} (ok : p.ok) : valV (mergeK [] sz1) (.inr p.wd) = some (.int (lenOf p : Nat)) := by
  cases p with
  | ours a b =>
    show valV (mergeK [] sz1) (.inr "ours") = some (.int 3)
    decide +kernel
  | wthr a b c =>
    show valV (mergeK [] sz1) (.inr "weather") = some (.int 4)
    decide +kernel
  | wthn n p =>
    show valV (mergeK [] sz1) (.inr "within") = some (.int 3)
    decide +kernel
  | many w ps =>
    show valV (mergeK [] sz1) (.inr w) = some (.int 2)
    rcases (show manyW w from ok.1) with rfl | rfl | rfl <;> decide +kernel
def sp_gform (n : Nat) : Sp := fun vs H Q _ => ∃ (v : V) (p : Pl), vs = [v] ∧ PlAt H p v ∧ p.ok ∧ p.dp ≤ n ∧ ∀ (H' : Hp), Same H H' → Q (.bl p.gf) H'
theorem cal_gform (T : Tp K mg) : ∀ n : Nat, Cal P w K mg base (n + 4) "_law_good_form" (sp_gform n)
  | 0 => by
    obtain ⟨fd, F⟩ := f__law_good_form T
    refine cal_of F (g__law_good_form T) (b__law_good_form F) sc__law_good_form (fun vs H Q E h => ?_) (fun cdv A outer s H vs Q E hr h => ?_)
    · obtain ⟨v, p, rfl, _⟩ := h
      rfl
    · obtain ⟨v, p, _, _, _, d, _⟩ := h
      have := dp_pos p
      omega
  | n + 1 => by
    have ih := cal_gform T n
    obtain ⟨fd, F⟩ := f__law_good_form T
    refine cal_of F (g__law_good_form T) (b__law_good_form F) sc__law_good_form (fun vs H Q E h => ?_) (fun cdv A outer s H vs Q E hr h => ?_)
    · obtain ⟨v, p, rfl, _⟩ := h
      rfl
    · obtain ⟨v, p, rfl, hp, ok, d, q⟩ := h
      have hu := hu_of hr
      refine ⟨_, (pss_cons (ps_set (i := 1) sc__law_good_form.nd rfl (.inl rfl) (pe_disp (pps_cons pe_str pe_int (pps_cons pe_str pe_int (pps_cons pe_str pe_int (pps_cons pe_str pe_int (pps_cons pe_str pe_int (pps_cons pe_str pe_int pps_nil)))))) (by rfl) (by rfl) (fun z => by cases z) (by decide)))
      (pss_cons (ps_if (PW.pt (pw_or (pt_not (pt_val (pe_callB call_isK (by rfl) (z_isinstance T) bb_isinstance (pa_cons (pv 0) (pa_cons (pe_bltn (v := .ty "tuple") (by rfl) (z_tuple T) bb_tuple rfl) pa_nil))))) (pw_or1 (pt_cmpR op_eq (pe_callB call_len_seq (by rfl) (z_len T) bb_len (pa_cons (pv 0) pa_nil)) pe_int (nomark _))))) (pss_one (ps_ret pe_bl)) pss_nil)
      (pss_cons (ps_if (pt_cmpR op_ne (pe_dget2 hu (pv 1) (pe_ix ix_tup (pv 0) pe_int (fun _ _ => rfl)) (pe_un un_neg pe_int) ⟨rfl, rfl, rfl, rfl⟩) (pe_callB call_len_seq (by rfl) (z_len T) bb_len (pa_cons (pv 0) pa_nil)) (nomark _)) (pss_one (ps_ret pe_bl)) pss_nil)
      (pss_cons (ps_if (pt_cmpR op_in_seq (pe_ix ix_tup (pv 0) pe_int (fun _ _ => rfl)) (pe_lst (pa_cons pe_str (pa_cons pe_str pa_nil))) (by rfl)) (pss_one (ps_ret (C8.pe_c (cal__law_good_leaf T) hr (by omega) rfl (pa_cons (pv 0) pa_nil)))) pss_nil)
      (pss_cons (ps_if (pt_cmpR op_eq (pe_ix ix_tup (pv 0) pe_int (fun _ _ => rfl)) pe_str (nomark _)) (pss_one (ps_ret (pe_and (C8.pe_c (cal__law_whole T) hr (by omega) rfl (pa_cons (pe_ix ix_tup (pv 0) pe_int (fun _ _ => rfl)) (pa_cons pe_int (pa_cons pe_int pa_nil)))) (pe_one (C8.pe_c ih hr (Nat.le_refl _) rfl (pa_cons (pe_ix ix_tup (pv 0) pe_int (fun _ _ => rfl)) pa_nil)))))) pss_nil)
      (pss_cons (ps_if (PW.pt (pw_or (pt_not (pt_val (pe_callB call_isK (by rfl) (z_isinstance T) bb_isinstance (pa_cons (pe_ix ix_tup (pv 0) pe_int (fun _ _ => rfl)) (pa_cons (pe_bltn (v := .ty "list") (by rfl) (z_list T) bb_list rfl) pa_nil))))) (pw_or1 (pt_not (pt_chain op_le op_le pe_int (pe_callB call_len_seq (by rfl) (z_len T) bb_len (pa_cons (pe_ix ix_tup (pv 0) pe_int (fun _ _ => rfl)) pa_nil)) pe_int))))) (pss_one (ps_ret pe_bl)) pss_nil)
      (pss_one (ps_ret (pe_callB (cr_all rfl) (by rfl) (z_all T) bb_all (pa_cons (pe_lc (own := [("_law_one", 2)]) (g := gName 2) (tt := tYes) rfl sc__law_good_form.nd (pi_list (pe_ix ix_tup (pv 0) pe_int (fun _ _ => rfl))) (blkOk_by (N := N__law_good_form) (sc := defScope s__law_good_form) (by decide +kernel)) (fun _ _ _ _ _ => (pg_name (i := 2) sc__law_good_form.nd rfl (.inl rfl))) (fun _ _ _ _ _ => pts_nil) (fun _ _ _ _ _ => (C8.pe_c ih hr (Nat.le_refl _) rfl (pa_cons (pv 2) pa_nil)))) pa_nil)))))))))), ?_⟩
      refine fun Z nZ => ⟨upd_same, sz1, rfl, by decide, ?_⟩
      have sZ : Same H (upd (upd H Z (.dK [])) Z (.dK (mergeK [] sz1))) := same_put (same_upd nZ) nZ
      have hZ : upd (upd H Z (.dK [])) Z (.dK (mergeK [] sz1)) Z = some (.dK (mergeK [] sz1)) := upd_same
      have hp1 := hp.same sZ
      generalize upd (upd H Z (.dK [])) Z (.dK (mergeK [] sz1)) = H1 at sZ hZ hp1 ⊢
      obtain ⟨t, r, rfl, ht, hlen⟩ := hp1.tupL
      have S : SqT K H1 t (.str p.wd :: r) := .inl (.inl ht)
      refine ⟨_, rfl, _, "tuple", "tuple", rfl, .base (.tup ht), by decide, by decide, _, rfl, iteF ⟨_, rfl, t, _, rfl, .inr S, rfl, _, rfl, ?_⟩⟩
      rw [decide_eq_false (show ¬ V.int ((V.str p.wd :: r).length : Nat) = V.int 0 from fun e => by have e := V.int.inj e; rw [List.length_cons] at e; omega)]
      refine iteF ⟨_, rfl, Z, rfl, .inl ⟨_, .inl hZ⟩, _, rfl, t, _, 0, .str p.wd, rfl, rfl, S, atI_nat (j := 0) rfl, _, rfl, some (.int (lenOf p : Nat)), .inl ⟨_, .inr p.wd, .inl hZ, rfl, (sz1_at ok).symm⟩, _, rfl, t, _, rfl, .inr S, rfl, _, rfl, ?_⟩
      refine iteNS (by rw [hlen]; rfl) ?_
      refine ⟨_, rfl, t, _, 0, .str p.wd, rfl, rfl, S, atI_nat (j := 0) rfl, (by show 2 ≤ sizeLine; decide), fun g ng => ?_⟩
      have sg := same_upd (o := .lst [.str "ours", .str "weather"]) ng
      have hp2 := hp1.same sg
      have s2 := sZ.trans sg
      have ht2 := sg _ _ ht
      refine ⟨g, [.str "ours", .str "weather"], rfl, .inl (.inl (.inl upd_same)), rfl, rfl, _, rfl, ?_⟩
      show if inV (.str p.wd) [.str "ours", .str "weather"] = true then _ else _
      rw [two_in, show decide (p.wd = "ours" ∨ p.wd = "weather") = leafW p from rfl]
      generalize upd H1 g (.lst [.str "ours", .str "weather"]) = H2 at sg hp2 s2 ht2 ⊢
      cases e : leafW p with
      | true => exact iteT ⟨_, rfl, _, p, rfl, hp2, ok, e, q H2 s2⟩
      | false =>
        refine iteF ⟨_, rfl, t, _, 0, .str p.wd, rfl, rfl, .inl (.inl ht2), atI_nat (j := 0) rfl, rfl, _, rfl, ?_⟩
        cases p with
        | ours a b =>
          rw [leaf_ours] at e
          cases e
        | wthr a b c =>
          rw [leaf_wthr] at e
          cases e
        | wthn m p =>
          obtain ⟨t', u, e1, h2, h3⟩ := hp2
          cases e1
          have d : p.dp + 1 ≤ n + 1 := d
          have S2 : SqT K H2 t [.str "within", .int m, u] := .inl (.inl h2)
          rw [show decide (V.str (Pl.wthn m p).wd = V.str "within") = true from eq_str]
          have q : ∀ H', Same H H' → Q (.bl (whI 0 1000 m && p.gf)) H' := q
          refine iteT ⟨_, rfl, t, _, 1, .int m, rfl, rfl, S2, atI_nat (j := 1) rfl, .int m, 0, 1000, rfl, rfl, _, rfl, ?_⟩
          rw [whB_I]
          cases e1 : whI 0 1000 m with
          | false =>
            have h := q H2 s2
            rw [e1] at h
            exact iteF h
          | true =>
            refine iteT ⟨_, rfl, t, _, 2, u, rfl, rfl, S2, atI_nat (j := 2) rfl, u, p, rfl, h3, ok, by omega, fun H3 s3 => ?_⟩
            have h := q H3 (s2.trans s3)
            rw [e1, Bool.true_and] at h
            exact h
        | many w ps =>
          obtain ⟨t', l, xs, e1, h2, h3, h4⟩ := hp2
          cases e1
          have d : dpL ps + 1 ≤ n + 1 := d
          have k1 := ok.2.1
          have k4 := ok.2.2.1
          have lx := h4.len
          have no := many_no ok.1
          have S2 : SqT K H2 t [.str w, .ref l] := .inl (.inl h2)
          rw [show decide (V.str (Pl.many w ps).wd = V.str "within") = false from ne_str no.2.2]
          refine iteF ⟨_, rfl, t, _, 1, .ref l, rfl, rfl, S2, atI_nat (j := 1) rfl, _, "list", "list", rfl, .base (.lst h3), by decide, by decide, _, rfl, iteF ?_⟩
          refine ⟨_, rfl, t, _, 1, .ref l, rfl, rfl, S2, atI_nat (j := 1) rfl, l, xs, rfl, .inl (.inl (.inl h3)), _, _, rfl, rfl, _, rfl, ?_⟩
          rw [decide_eq_true (show (1 : Int) ≤ (xs.length : Nat) by omega)]
          refine iteT ⟨_, _, rfl, rfl, _, rfl, ?_⟩
          rw [decide_eq_true (show ((xs.length : Nat) : Int) ≤ 4 by omega)]
          refine iteF ⟨_, rfl, t, _, 1, .ref l, rfl, rfl, S2, atI_nat (j := 1) rfl, l, rfl, ⟨_, .inl (.inl h3)⟩, fun D nD => ?_⟩
          refine lc_pure ps (walk_listN lx) (fun c => some c.gf) (SV V.bl) (fun _ h => h) nD (by omega) (fun H s => .inl (.inl (s _ _ h3))) ?_ ?_
          · rintro i c x H3 _ ec s3 ⟨rfl, hv⟩ Good Bad kt kf
            have hc := h4.get hv ec
            have hm := List.mem_of_getElem? ec
            have := dpL_mem hm
            exact ⟨rfl, yes_i (iteT ⟨_, rfl, x, c, rfl, hc.same s3, okL_mem ok.2.2.2 hm, by omega, fun H4 s4 => kt _ _ _ rfl s4 rfl⟩)⟩
          · intro H3 acc s3 d3 p3
            have ea := paired_enc p3
            rw [show (ps.filterMap fun c => some c.gf) = ps.map Pl.gf from List.filterMap_eq_map ▸ rfl] at ea
            subst ea
            refine ⟨D, _, rfl, .inl (.inl d3), ?_⟩
            have h : Q (.bl (gfL ps)) H3 := q H3 (s2.trans s3)
            rw [gfL_all] at h
            rw [List.all_map]
            exact h
def GoodP (p : Pl) : Prop := p.gf = true ∧ p.lc ≤ 12 ∧ p.rc ≤ 64
def sp_gplan (n : Nat) : Sp := fun vs H Q _ => ∃ (v : V) (p : Pl), vs = [v] ∧ PlAt H p v ∧ p.ok ∧ p.dp ≤ n ∧ n ≤ 6 ∧ ∀ (H' : Hp) (b : Bool), Same H H' → (b = true → GoodP p) → Q (.bl b) H'
theorem cal_gplan (T : Tp K mg) (n : Nat) : Cal P w K mg base (n + 5) "_law_good_plan" (sp_gplan n) := by
  obtain ⟨fd, F⟩ := f__law_good_plan T
  refine cal_of F (g__law_good_plan T) (b__law_good_plan F) sc__law_good_plan (fun vs H Q E h => ?_) (fun cdv A outer s H vs Q E hr h => ?_)
  · obtain ⟨v, p, rfl, _⟩ := h
    rfl
  · obtain ⟨v, p, rfl, hp, ok, d, n6, q⟩ := h
    refine ⟨_, (pss_cons (ps_if (PW.pt (pw_or (pt_not (pt_val (C8.pe_c (cal_gform T n) hr (by omega) rfl (pa_cons (pv 0) pa_nil)))) (pw_or1 (pt_cmpR op_gt (C8.pe_c (cal_ldepth T n) hr (by omega) rfl (pa_cons (pv 0) pa_nil)) pe_int (nomark _))))) (pss_one (ps_ret pe_bl)) pss_nil)
      (pss_one (ps_ret (pe_and (pe_cmpR op_le (C8.pe_c (cal_lleaf T n) hr (by omega) rfl (pa_cons (pv 0) pa_nil)) pe_int (nomark _)) (pe_one (pe_cmpR op_le (C8.pe_c (cal_lread T n) hr (by omega) rfl (pa_cons (pv 0) pa_nil)) pe_int (nomark _))))))), ?_⟩
    refine ⟨_, rfl, v, p, rfl, hp, ok, d, fun H1 s1 => ⟨_, rfl, ?_⟩⟩
    cases eg : p.gf with
    | false => exact iteT (iteT (q H1 false s1 fun z => nomatch z))
    | true =>
      refine iteF ⟨_, rfl, v, p, rfl, hp.same s1, ok, d, fun H2 s2 => ⟨_, _, rfl, rfl, _, rfl, ?_⟩⟩
      rw [decide_eq_false (show ¬ (6 : Int) < (p.dp : Nat) by omega)]
      refine iteF ⟨_, rfl, v, p, rfl, (hp.same s1).same s2, ok, d, fun H3 s3 => ⟨_, _, rfl, rfl, _, rfl, ?_⟩⟩
      have s13 := (s1.trans s2).trans s3
      by_cases c : p.lc ≤ 12
      · rw [decide_eq_true (show ((p.lc : Nat) : Int) ≤ 12 by omega)]
        refine iteT ⟨_, rfl, v, p, rfl, hp.same s13, ok, d, c, fun H4 s4 => ⟨_, _, rfl, rfl, ?_⟩⟩
        exact q H4 _ (s13.trans s4) fun e => ⟨eg, c, by have := of_decide_eq_true e; omega⟩
      · rw [decide_eq_false (show ¬ ((p.lc : Nat) : Int) ≤ 12 by omega)]
        exact iteF (q H3 false s13 fun z => nomatch z)
end
end Tw

set_option maxHeartbeats 4000000
namespace Tw
open PySem PySem.Spec PyProof.Rows L2
/-! the law's own of plans: a copy, a wreck -/
theorem off_one {H : Hp} {D : Addr} {o : HO} : Off [D] H (upd H D o) := fun b x hb hn => by
  rw [upd_ne (fun z => hn (by rw [z]; exact List.mem_cons_self))]
  exact hb
theorem lsts_one {H : Hp} {D : Addr} {xs : List V} (h : H D = some (.lst xs)) : Lsts H [D] := fun a ha => by
  rw [List.mem_singleton.mp ha]
  exact ⟨_, h⟩
theorem not_one {D : Addr} {ls : List Addr} (h : D ∉ ls) : ∀ a ∈ ls, a ∉ [D] := fun a ha z => h (by rw [List.mem_singleton.mp z] at ha; exact ha)
section
variable {P : Program} {w : World} {K : PySem.W.Frag} {mg : Str → Option Value} {base : Heap}
def sp_pcopy (n : Nat) : Sp := fun vs H Q _ => ∃ (v : V) (p : Pl), vs = [v] ∧ PlAt H p v ∧ p.ok ∧ p.dp ≤ n ∧ ∀ (u : V) (H' : Hp), Same H H' → NewPl H H' p u → Q u H'
theorem cal_pcopy (T : Tp K mg) : ∀ n : Nat, Cal P w K mg base (n + 1) "_law_plan_copy" (sp_pcopy n)
  | 0 => by
    obtain ⟨fd, F⟩ := f__law_plan_copy T
    refine cal_of F (g__law_plan_copy T) (b__law_plan_copy F) sc__law_plan_copy (fun vs H Q E h => ?_) (fun cdv A outer s H vs Q E hr h => ?_)
    · obtain ⟨v, p, rfl, _⟩ := h
      rfl
    · obtain ⟨v, p, _, _, _, d, _⟩ := h
      have := dp_pos p
      omega
  | n + 1 => by
    have ih := cal_pcopy T n
    obtain ⟨fd, F⟩ := f__law_plan_copy T
    refine cal_of F (g__law_plan_copy T) (b__law_plan_copy F) sc__law_plan_copy (fun vs H Q E h => ?_) (fun cdv A outer s H vs Q E hr h => ?_)
    · obtain ⟨v, p, rfl, _⟩ := h
      rfl
    · obtain ⟨v, p, rfl, hp, ok, d, q⟩ := h
      obtain ⟨t, r, rfl, ht⟩ := hp.tup
      refine ⟨_, (pss_cons (ps_if (pt_cmpR op_in_seq (pe_ix ix_tup (pv 0) pe_int (fun _ _ => rfl)) (pe_lst (pa_cons pe_str (pa_cons pe_str pa_nil))) (by rfl)) (pss_one (ps_ret (pv 0))) pss_nil)
      (pss_cons (ps_if (pt_cmpR op_eq (pe_ix ix_tup (pv 0) pe_int (fun _ _ => rfl)) pe_str (nomark _)) (pss_one (ps_ret (pe_op op_catU (pe_slice sl_tupU (pv 0) po_none (po_some pe_int)) (pe_tup (pa_cons (C8.pe_c ih hr (Nat.le_refl _) rfl (pa_cons (pe_ix ix_tup (pv 0) pe_int (fun _ _ => rfl)) pa_nil)) pa_nil))))) pss_nil)
      (pss_one (ps_ret (pe_tup (pa_cons (pe_ix ix_tup (pv 0) pe_int (fun _ _ => rfl)) (pa_cons (pe_lc (own := [("_law_one", 1)]) (g := gName 1) (tt := tYes) rfl sc__law_plan_copy.nd (pi_list (pe_ix ix_tup (pv 0) pe_int (fun _ _ => rfl))) (blkOk_by (N := N__law_plan_copy) (sc := defScope s__law_plan_copy) (by decide +kernel)) (fun _ _ _ _ _ => (pg_name (i := 1) sc__law_plan_copy.nd rfl (.inl rfl))) (fun _ _ _ _ _ => pts_nil) (fun _ _ _ _ _ => (C8.pe_c ih hr (Nat.le_refl _) rfl (pa_cons (pv 1) pa_nil)))) pa_nil))))))), ?_⟩
      refine ⟨_, rfl, t, _, 0, .str p.wd, rfl, rfl, .inl (.inl ht), atI_nat (j := 0) rfl, (by show 2 ≤ sizeLine; decide), fun g ng => ?_⟩
      have sg := same_upd (o := .lst [.str "ours", .str "weather"]) ng
      have hp1 := hp.same sg
      have ht1 := sg _ _ ht
      refine ⟨g, [.str "ours", .str "weather"], rfl, .inl (.inl (.inl upd_same)), rfl, rfl, _, rfl, ?_⟩
      show if inV (.str p.wd) [.str "ours", .str "weather"] = true then _ else _
      rw [two_in, show decide (p.wd = "ours" ∨ p.wd = "weather") = leafW p from rfl]
      generalize upd H g (.lst [.str "ours", .str "weather"]) = H1 at sg hp1 ht1 ⊢
      cases e : leafW p with
      | true => exact iteT ⟨_, rfl, q _ H1 sg ⟨[], (leaf_new hp1 e ok).1, fun a ha => nomatch ha⟩⟩
      | false =>
        refine iteF ⟨_, rfl, t, _, 0, .str p.wd, rfl, rfl, .inl (.inl ht1), atI_nat (j := 0) rfl, rfl, _, rfl, ?_⟩
        cases p with
        | ours a b =>
          rw [leaf_ours] at e
          cases e
        | wthr a b c =>
          rw [leaf_wthr] at e
          cases e
        | wthn m p =>
          obtain ⟨t', u, e1, h2, h3⟩ := hp1
          cases e1
          have d : p.dp + 1 ≤ n + 1 := d
          rw [show decide (V.str (Pl.wthn m p).wd = V.str "within") = true from eq_str]
          refine iteT ⟨_, rfl, 2, rfl, t, _, rfl, h2, fun k H2 s2 e2 => ?_⟩
          refine ⟨_, rfl, t, _, 2, u, rfl, rfl, .inl (.inl (s2 _ _ h2)), atI_nat (j := 2) rfl, u, p, rfl, h3.same s2, ok, by omega, fun x H3 s3 N => ⟨(by show 1 ≤ sizeLine; decide), fun a na => ?_⟩⟩
          have sa := same_upd (o := .tup [x]) na
          refine ⟨k, a, _, _, rfl, rfl, sa _ _ (s3 _ _ e2), upd_same, (by show 2 + 1 ≤ sizeLine; decide), fun t2 H4 s4 e4 => ?_⟩
          obtain ⟨ls, N1, N2⟩ := N
          have sA := sa.trans s4
          exact q (.ref t2) H4 (((sg.trans s2).trans s3).trans sA) ⟨ls, ⟨t2, x, rfl, e4, N1.same sA⟩, fun a ha => sg.free (s2.free (N2 a ha))⟩
        | many w ps =>
          obtain ⟨t', l, xs, e1, h2, h3, h4⟩ := hp1
          cases e1
          have d : dpL ps + 1 ≤ n + 1 := d
          have k4 := ok.2.2.1
          have lx := h4.len
          have no := many_no ok.1
          have S2 : SqT K H1 t [.str w, .ref l] := .inl (.inl h2)
          rw [show decide (V.str (Pl.many w ps).wd = V.str "within") = false from ne_str no.2.2]
          refine iteF ⟨_, rfl, t, _, 0, .str w, rfl, rfl, S2, atI_nat (j := 0) rfl, _, rfl, t, _, 1, .ref l, rfl, rfl, S2, atI_nat (j := 1) rfl, l, rfl, ⟨_, .inl (.inl h3)⟩, fun D nD => ?_⟩
          refine lc_it (walk_listN (K := K) (a := l) lx) (fun i H3 => ∃ (acc : List V) (ls : List Addr), Same H1 H3 ∧ H3 D = some (.lst acc) ∧ PlsF H3 (ps.take i) acc ls ∧ (∀ a ∈ ls, H1 a = none) ∧ D ∉ ls) ⟨[], [], same_upd nD, upd_same, ⟨rfl, rfl⟩, (fun a ha => nomatch ha), fun z => nomatch z⟩ (fun i H3 _ ⟨_, _, s, _⟩ => .inl (.inl (s _ _ h3))) ?_ ?_
          · rintro i x H3 H3' hi ⟨acc, ls, s3, d3, RF, fr, nin⟩ ⟨rfl, hv⟩
            obtain ⟨c, ec⟩ : ∃ c, ps[i]? = some c := ⟨_, List.getElem?_eq_getElem hi⟩
            have hm := List.mem_of_getElem? ec
            have := dpL_mem hm
            have la : acc.length = (ps.take i).length := RF.len
            rw [List.length_take] at la
            refine ⟨rfl, yes_i (iteT ⟨_, rfl, x, c, rfl, (h4.get hv ec).same s3, okL_mem ok.2.2.2 hm, by omega, fun u H4 s4 N => ?_⟩)⟩
            obtain ⟨ks, N1, N2⟩ := N
            have d4 := s4 _ _ d3
            have nk : D ∉ ks := fun h => by
              have := N2 D h
              rw [d3] at this
              cases this
            have dj : ∀ a ∈ ls, a ∉ ks := fun a hl ha => by
              obtain ⟨ys, hy⟩ := RF.lsts a hl
              have := N2 a ha
              rw [hy] at this
              cases this
            refine ⟨acc, d4, small1000 (by omega), acc ++ [u], ls ++ ks, same_put (s3.trans s4) nD, upd_same, ?_, fun a ha => ?_, fun h => ?_⟩
            · rw [List.take_add_one, ec]
              exact PlsF.snoc (N1.off off_one (lsts_one d4) (not_one nk)) ((RF.same s4).off off_one (lsts_one d4) (not_one nin)) dj
            · rcases List.mem_append.mp ha with ha | ha
              · exact fr a ha
              · exact s3.free (N2 a ha)
            · rcases List.mem_append.mp h with h | h
              · exact nin h
              · exact nk h
          · rintro H3 ⟨acc, ls, s3, d3, RF, fr, nin⟩
            rw [List.take_length] at RF
            refine ⟨(by show 2 ≤ sizeLine; decide), fun t2 nt2 => ?_⟩
            have st := same_upd (o := .tup [.str w, .ref D]) nt2
            refine q (.ref t2) _ ((sg.trans s3).trans st) ⟨D :: ls, ⟨t2, D, acc, ls, rfl, upd_same, st _ _ d3, RF.same st, rfl, nin⟩, fun a ha => ?_⟩
            rcases List.mem_cons.mp ha with rfl | ha
            · exact sg.free nD
            · exact sg.free (fr a ha)
/-! ### _law_wreck -/
def sp_kidsF : Sp := fun vs H Q _ => ∃ (v : V) (p : Pl) (ls : List Addr), vs = [v] ∧ PlF H p v ls ∧ p.ok ∧ ∀ (D : Addr) (xs : List V) (ms : List Addr) (H' : Hp), Same H H' → H' D = some (.lst xs) → PlsF H' p.kids xs ms → (∀ a ∈ ms, a ∈ ls) → D ∉ ms → (∀ t w ps, p = .many w ps → v = .ref t → H t = some (.tup [.str w, .ref D])) → Q (.ref D) H'
theorem cal_kidsF (T : Tp K mg) : Cal P w K mg base 1 "_law_kids" sp_kidsF := by
  obtain ⟨fd, F⟩ := f__law_kids T
  refine cal_of F (g__law_kids T) (b__law_kids F) sc__law_kids (fun vs H Q E h => ?_) (fun cdv A outer s H vs Q E hr h => ?_)
  · obtain ⟨v, p, ls, rfl, _⟩ := h
    rfl
  · obtain ⟨v, p, ls, rfl, hp, ok, q⟩ := h
    obtain ⟨t, r, rfl, ht⟩ := hp.at.tup
    refine ⟨_, (pss_cons (ps_if (pt_cmpR op_in_seq (pe_ix ix_tup (pv 0) pe_int (fun _ _ => rfl)) (pe_lst (pa_cons pe_str (pa_cons pe_str pa_nil))) (by rfl)) (pss_one (ps_ret (pe_lst pa_nil))) pss_nil)
      (pss_one (ps_ret (pe_ifExp (pt_cmpR op_eq (pe_ix ix_tup (pv 0) pe_int (fun _ _ => rfl)) pe_str (nomark _)) (pe_lst (pa_cons (pe_ix ix_tup (pv 0) pe_int (fun _ _ => rfl)) pa_nil)) (pe_ix ix_tup (pv 0) pe_int (fun _ _ => rfl)))))), ?_⟩
    refine ⟨_, rfl, t, _, 0, .str p.wd, rfl, rfl, .inl (.inl ht), atI_nat (j := 0) rfl, (by show 2 ≤ sizeLine; decide), fun g ng => ?_⟩
    have sg := same_upd (o := .lst [.str "ours", .str "weather"]) ng
    have hp1 := hp.same sg
    refine ⟨g, [.str "ours", .str "weather"], rfl, .inl (.inl (.inl upd_same)), rfl, rfl, _, rfl, ?_⟩
    show if inV (.str p.wd) [.str "ours", .str "weather"] = true then _ else _
    rw [two_in, show decide (p.wd = "ours" ∨ p.wd = "weather") = leafW p from rfl]
    generalize upd H g (.lst [.str "ours", .str "weather"]) = H1 at sg hp1 ⊢
    cases p with
    | ours a b =>
      rw [leaf_ours]
      exact iteT ⟨Nat.zero_le _, fun D nD => q D [] [] _ (sg.trans (same_upd nD)) upd_same ⟨rfl, rfl⟩ (fun a ha => nomatch ha) (fun z => nomatch z) fun t w ps e => nomatch e⟩
    | wthr a b c =>
      rw [leaf_wthr]
      exact iteT ⟨Nat.zero_le _, fun D nD => q D [] [] _ (sg.trans (same_upd nD)) upd_same ⟨rfl, rfl⟩ (fun a ha => nomatch ha) (fun z => nomatch z) fun t w ps e => nomatch e⟩
    | wthn n p =>
      obtain ⟨t', u, e1, h2, h3⟩ := hp1
      cases e1
      rw [leaf_wthn]
      refine iteF ⟨_, rfl, t, _, 0, .str "within", rfl, rfl, .inl (.inl h2), atI_nat (j := 0) rfl, rfl, _, rfl, iteT ⟨_, rfl, t, _, 2, u, rfl, rfl, .inl (.inl h2), atI_nat (j := 2) rfl, (by show 1 ≤ sizeLine; decide), fun D nD => ?_⟩⟩
      have sD := same_upd (o := .lst [u]) nD
      refine q D [u] ls _ (sg.trans sD) upd_same ⟨u, [], ls, [], rfl, h3.same sD, ⟨rfl, rfl⟩, (List.append_nil ls).symm, fun _ _ z => nomatch z⟩ (fun a ha => ha) (fun h => ?_) fun t w ps e => nomatch e
      obtain ⟨ys, hy⟩ := h3.lsts D h
      rw [nD] at hy
      cases hy
    | many w ps =>
      obtain ⟨t0, l0, xs0, ms0, e0, g2, _⟩ := hp
      cases e0
      obtain ⟨t', l, xs, ms, e1, h2, h3, h4, e5, h6⟩ := hp1
      cases e1
      have el : l = l0 := by
        rw [sg _ _ g2] at h2
        injection h2 with h2
        injection h2 with h2
        injection h2 with _ h2
        injection h2 with h2 _
        injection h2 with h2
        exact h2.symm
      subst el
      have no := many_no ok.1
      rw [leaf_many ok.1]
      refine iteF ⟨_, rfl, t, _, 0, .str w, rfl, rfl, .inl (.inl h2), atI_nat (j := 0) rfl, rfl, _, rfl, ?_⟩
      rw [decide_eq_false (show ¬ V.str w = V.str "within" from fun e => no.2.2 (V.str.inj e))]
      exact iteF ⟨_, rfl, t, _, 1, .ref l, rfl, rfl, .inl (.inl h2), atI_nat (j := 1) rfl, q l xs ms H1 sg h3 h4 (fun a ha => by rw [e5]; exact List.mem_cons_of_mem _ ha) h6 (fun t w ps e ev => by cases e; cases ev; exact g2)⟩
def sp_wreck (n : Nat) : Sp := fun vs H Q _ => ∃ (v : V) (p : Pl) (ls : List Addr), vs = [v] ∧ PlF H p v ls ∧ p.ok ∧ p.dp ≤ n ∧ ∀ H', Off ls H H' → Q .non H'
theorem three_no {z a b c : Str} : inV (.str z) [.str a, .str b, .str c] = decide (z = a ∨ z = b ∨ z = c) := by
  have := in_strs z [a, b, c]
  rw [show ([.str a, .str b, .str c] : List V) = [a, b, c].map V.str from rfl, this]
  simp
theorem cal_wreck (T : Tp K mg) : ∀ n : Nat, Cal P w K mg base (n + 1) "_law_wreck" (sp_wreck n)
  | 0 => by
    obtain ⟨fd, F⟩ := f__law_wreck T
    refine cal_of F (g__law_wreck T) (b__law_wreck F) sc__law_wreck (fun vs H Q E h => ?_) (fun cdv A outer s H vs Q E hr h => ?_)
    · obtain ⟨v, p, ls, rfl, _⟩ := h
      rfl
    · obtain ⟨v, p, ls, _, _, _, d, _⟩ := h
      have := dp_pos p
      omega
  | n + 1 => by
    have ih := cal_wreck T n
    obtain ⟨fd, F⟩ := f__law_wreck T
    refine cal_of F (g__law_wreck T) (b__law_wreck F) sc__law_wreck (fun vs H Q E h => ?_) (fun cdv A outer s H vs Q E hr h => ?_)
    · obtain ⟨v, p, ls, rfl, _⟩ := h
      rfl
    · obtain ⟨v, p, ls, rfl, hp, ok, d, q⟩ := h
      refine ⟨_, (pss_cons (ps_for PassesOwn.never rfl (pi_list (C8.pe_c (cal_kidsF T) hr (by omega) rfl (pa_cons (pv 0) pa_nil))) (pg_name (i := 1) sc__law_wreck.nd rfl (.inl rfl))
        (pss_one (ps_expr (C8.pe_c ih hr (Nat.le_refl _) rfl (pa_cons (pv 1) pa_nil)))))
      (pss_one (ps_if (pt_cmpR op_notIn_seq (pe_ix ix_tup (pv 0) pe_int (fun _ _ => rfl)) (pe_lst (pa_cons pe_str (pa_cons pe_str (pa_cons pe_str pa_nil)))) (by rfl)) (pss_one (ps_expr (pe_bm PySem.F.plainAttrs_list PySem.F.slot_list_append PySem.F.type_list_append mt_append (pe_ix ix_tup (pv 0) pe_int (fun _ _ => rfl)) (pa_cons (pe_tup (pa_cons pe_str (pa_cons pe_int (pa_cons pe_int pa_nil)))) pa_nil)))) pss_nil))), ?_⟩
      refine ⟨_, rfl, v, p, ls, rfl, hp, ok, fun D xs ms H2 s2 hD KF sub nD isL => ⟨D, rfl, ⟨_, .inl (.inl hD)⟩, ?_⟩⟩
      have lk := kids_len ok
      have lx := KF.len
      have LM := KF.lsts
      refine for_list (K := K) (a := D) (xs := xs) (fun i σ H' => ∃ (ns : List Addr) (y1 : Option V), σ = [some v, y1] ∧ PlsF H' (p.kids.drop i) (xs.drop i) ns ∧ (∀ a ∈ ns, a ∈ ms) ∧ Off ms H2 H' ∧ H' D = some (.lst xs)) ⟨ms, none, rfl, KF, (fun a ha => ha), Off.of (Same.refl _), hD⟩ (fun i σ H' _ ⟨_, _, _, _, _, _, h⟩ => .inl (.inl h)) ?_ ?_
      · rintro i x σ H3 hv ⟨ns, y1, rfl, RF, sn, O3, hD3⟩
        have hi : i < xs.length := (List.getElem?_eq_some_iff.mp hv).1
        obtain ⟨c, ec⟩ : ∃ c, p.kids[i]? = some c := ⟨_, List.getElem?_eq_getElem (by omega)⟩
        have hm := List.mem_of_getElem? ec
        rw [drop_at ec, drop_at hv] at RF
        obtain ⟨x', ys, k1, k2, e1, R1, R2, e2, dj⟩ := RF
        injection e1 with e1 e3
        subst e1 e3
        refine ⟨_, rfl, x, c, k1, rfl, R1, kids_ok ok hm, kids_dp d hm, fun H4 O4 => ?_⟩
        have sub1 : ∀ a ∈ k1, a ∈ ms := fun a ha => sn a (by rw [e2]; exact List.mem_append_left _ ha)
        refine ⟨k2, _, rfl, R2.off O4 R1.lsts (fun a ha hk => dj a hk ha), fun a ha => sn a (by rw [e2]; exact List.mem_append_right _ ha), O3.trans (O4.mono sub1), O4 _ _ hD3 fun h => nD (sub1 D h)⟩
      · rintro σ H3 ⟨ns, y1, rfl, RF, sn, O3, hD3⟩
        have OH : Off ls H H3 := (Off.of s2).trans (O3.mono sub)
        obtain ⟨t, r, rfl, ht⟩ := hp.at.tup
        have ht3 : H3 t = some (.tup (.str p.wd :: r)) := tup_off O3 LM (s2 _ _ ht)
        refine ⟨_, rfl, t, _, 0, .str p.wd, rfl, rfl, .inl (.inl ht3), atI_nat (j := 0) rfl, (by show 3 ≤ sizeLine; decide), fun g ng => ?_⟩
        have sg := same_upd (o := .lst [.str "ours", .str "weather", .str "within"]) ng
        refine ⟨g, [.str "ours", .str "weather", .str "within"], rfl, .inl (.inl (.inl upd_same)), rfl, rfl, _, rfl, ?_⟩
        show if (!inV (.str p.wd) [.str "ours", .str "weather", .str "within"]) = true then _ else _
        rw [three_no]
        have Og : Off ls H (upd H3 g (.lst [.str "ours", .str "weather", .str "within"])) := OH.trans (Off.of sg)
        cases p with
        | ours a b =>
          rw [decide_eq_true (show (Pl.ours a b).wd = "ours" ∨ _ from .inl rfl)]
          exact iteF (q _ Og)
        | wthr a b c =>
          rw [decide_eq_true (show (Pl.wthr a b c).wd = "ours" ∨ (Pl.wthr a b c).wd = "weather" ∨ _ from .inr (.inl rfl))]
          exact iteF (q _ Og)
        | wthn m p =>
          rw [decide_eq_true (show (Pl.wthn m p).wd = "ours" ∨ (Pl.wthn m p).wd = "weather" ∨ (Pl.wthn m p).wd = "within" from .inr (.inr rfl))]
          exact iteF (q _ Og)
        | many w ps =>
          have no := many_no ok.1
          rw [decide_eq_false (show ¬ ((Pl.many w ps).wd = "ours" ∨ (Pl.many w ps).wd = "weather" ∨ (Pl.many w ps).wd = "within") from fun h => by
            rcases h with h | h | h
            · exact no.1 h
            · exact no.2.1 h
            · exact no.2.2 h)]
          obtain ⟨t', l, ys, ns', e1, h2, h3, h4, e5, h6⟩ := hp
          cases e1
          have lin : l ∈ ls := by
            rw [e5]
            exact List.mem_cons_self
          have eD : D = l := by
            have h := isL t w ps rfl rfl
            rw [h2] at h
            injection h with h
            injection h with h
            injection h with _ h
            injection h with h _
            injection h with h
            exact h.symm
          subst eD
          rw [h2] at ht
          injection ht with ht
          injection ht with ht
          injection ht with _ ht
          subst ht
          have ht4 := sg _ _ ht3
          have hl4 := sg _ _ hD3
          refine iteT ⟨_, rfl, t, _, 1, .ref D, rfl, rfl, .inl (.inl ht4), atI_nat (j := 1) rfl, .inl ⟨rfl, _, .inl (.inl hl4)⟩, (by show 3 ≤ sizeLine; decide), fun a na => ?_⟩
          have sa := same_upd (o := .tup [.str "ours", .int 9, .int 9]) na
          refine ⟨D, xs, .ref a, rfl, rfl, sa _ _ hl4, small1000 (by omega), q _ fun b o hb hn => ?_⟩
          rw [upd_ne (fun z => hn (by rw [z]; exact lin))]
          exact sa _ _ (Og b o hb hn)
end
end Tw

set_option maxHeartbeats 4000000
namespace Tw
open PySem PySem.Spec PyProof.Rows L2
/-! the law's own of plans: all ways -/
theorem mil (n : Nat) (h : n ≤ 1000000) : n ≤ sizeLine := by
  rw [show sizeLine = 16777216 from by decide]
  omega
theorem mil' (n : Nat) (h : n ≤ 1000000) : n < sizeLine := by
  rw [show sizeLine = 16777216 from by decide]
  omega
/-- lists of plans -/
def LsAt (H : Hp) (xs : List V) (rs : List (List Pl)) : Prop := Paired (fun x r => ∃ l ys, x = V.ref l ∧ H l = some (.lst ys) ∧ PlsAt H r ys) xs rs
theorem LsAt.same {H H' : Hp} (s : Same H H') {xs : List V} {rs : List (List Pl)} (h : LsAt H xs rs) : LsAt H' xs rs := Paired.mono (fun _ _ ⟨l, ys, h1, h2, h3⟩ => ⟨l, ys, h1, s _ _ h2, h3.same s⟩) h
theorem paired_app {α β : Type} {F : α → β → Prop} : ∀ {a b : List α} {c d : List β}, Paired F a c → Paired F b d → Paired F (a ++ b) (c ++ d)
  | _, _, _, _, .nil, h => h
  | _, _, _, _, .cons h t, h' => .cons h (paired_app t h')
theorem plsAt_of {H : Hp} : ∀ {xs : List V} {ps : List Pl}, Paired (fun v p => PlAt H p v) xs ps → PlsAt H ps xs
  | _, _, .nil => rfl
  | _, _, .cons h t => ⟨_, _, rfl, h, plsAt_of t⟩
theorem wayL_take {ps : List Pl} {j : Nat} {c : Pl} (ec : ps[j]? = some c) : rowsOf (wayL (ps.take (j + 1))) = (rowsOf (wayL (ps.take j))).flatMap fun r => c.ways.map fun x => r ++ [x] := by
  rw [List.take_add_one, ec]
  show rowsOf (wayL (ps.take j ++ [c])) = _
  rw [wayL_app]
  exact rows_snoc
theorem flat_take {ps : List Pl} {j : Nat} {c : Pl} (ec : ps[j]? = some c) : (wayL (ps.take (j + 1))).flatten = (wayL (ps.take j)).flatten ++ c.ways := by
  rw [List.take_add_one, ec]
  show (wayL (ps.take j ++ [c])).flatten = _
  rw [wayL_app, List.flatten_append]
  show _ ++ (c.ways ++ []) = _
  rw [List.append_nil]
theorem rows_fold {ws : List (List Pl)} : ∀ {acc : List (List Pl)} {k : Nat}, (∀ r ∈ acc, r.length = k) → ∀ r ∈ ws.foldl (fun rows w => rows.flatMap fun r => w.map fun x => r ++ [x]) acc, r.length = k + ws.length := by
  induction ws with
  | nil => exact fun h r hr => h r hr
  | cons w ws ih =>
    intro acc k h r hr
    have := ih (acc := acc.flatMap fun r => w.map fun x => r ++ [x]) (k := k + 1) (fun r' hr' => by
      obtain ⟨r1, h1, h2⟩ := List.mem_flatMap.mp hr'
      obtain ⟨x, _, rfl⟩ := List.mem_map.mp h2
      rw [List.length_append, h r1 h1]
      rfl) r hr
    rw [this, List.length_cons]
    omega
theorem rows_mem {ws : List (List Pl)} {r : List Pl} (h : r ∈ rowsOf ws) : r.length = ws.length := by
  have := rows_fold (ws := ws) (acc := [[]]) (k := 0) (fun r hr => by rw [List.mem_singleton.mp hr]; rfl) r h
  omega
section
variable {P : Program} {w : World} {K : PySem.W.Frag} {mg : Str → Option Value} {base : Heap}
def sp_ways (n : Nat) : Sp := fun vs H Q _ => ∃ (v : V) (p : Pl), vs = [v] ∧ PlAt H p v ∧ p.ok ∧ p.dp ≤ n ∧ p.lc ≤ 12 ∧ ∀ (D : Addr) (xs : List V) (H' : Hp), Same H H' → H' D = some (.lst xs) → PlsAt H' p.ways xs → Q (.ref D) H'
theorem cal_ways (T : Tp K mg) : ∀ n : Nat, Cal P w K mg base (n + 1) "_law_ways" (sp_ways n)
  | 0 => by
    obtain ⟨fd, F⟩ := f__law_ways T
    refine cal_of F (g__law_ways T) (b__law_ways F) sc__law_ways (fun vs H Q E h => ?_) (fun cdv A outer s H vs Q E hr h => ?_)
    · obtain ⟨v, p, rfl, _⟩ := h
      rfl
    · obtain ⟨v, p, _, _, _, d, _⟩ := h
      have := dp_pos p
      omega
  | n + 1 => by
    have ih := cal_ways T n
    obtain ⟨fd, F⟩ := f__law_ways T
    refine cal_of F (g__law_ways T) (b__law_ways F) sc__law_ways (fun vs H Q E h => ?_) (fun cdv A outer s H vs Q E hr h => ?_)
    · obtain ⟨v, p, rfl, _⟩ := h
      rfl
    · obtain ⟨v, p, rfl, hp, ok, d, lc, q⟩ := h
      obtain ⟨t, r, rfl, ht⟩ := hp.tup
      refine ⟨_, (pss_cons (ps_if (pt_cmpR op_eq (pe_ix ix_tup (pv 0) pe_int (fun _ _ => rfl)) pe_str (nomark _)) (pss_cons (ps_set (i := 1) sc__law_ways.nd rfl (.inl rfl) (pe_lst pa_nil))
        (pss_cons (ps_for PassesOwn.never rfl (pi_list (pe_ix ix_tup (pv 0) pe_int (fun _ _ => rfl))) (pg_name (i := 2) sc__law_ways.nd rfl (.inl rfl))
          (pss_one (ps_set (i := 1) sc__law_ways.nd rfl (.inl rfl) (pe_op op_cat (pv 1) (C8.pe_c ih hr (Nat.le_refl _) rfl (pa_cons (pv 2) pa_nil))))))
        (pss_one (ps_ret (pv 1))))) pss_nil)
      (pss_cons (ps_if (pt_cmpR op_eq (pe_ix ix_tup (pv 0) pe_int (fun _ _ => rfl)) pe_str (nomark _)) (pss_one (ps_ret (pe_lc (own := [("_law_one", 2)]) (g := gName 2) (tt := tYes) rfl sc__law_ways.nd (pi_list (C8.pe_c ih hr (Nat.le_refl _) rfl (pa_cons (pe_ix ix_tup (pv 0) pe_int (fun _ _ => rfl)) pa_nil))) (blkOk_by (N := N__law_ways) (sc := defScope s__law_ways) (by decide +kernel)) (fun _ _ _ _ _ => (pg_name (i := 2) sc__law_ways.nd rfl (.inl rfl))) (fun _ _ _ _ _ => pts_nil) (fun _ _ _ _ _ => (pe_op op_catU (pe_slice sl_tupU (pv 0) po_none (po_some pe_int)) (pe_tup (pa_cons (pv 2) pa_nil))))))) pss_nil)
      (pss_cons (ps_if (pt_cmpR op_in_seq (pe_ix ix_tup (pv 0) pe_int (fun _ _ => rfl)) (pe_lst (pa_cons pe_str (pa_cons pe_str pa_nil))) (by rfl)) (pss_one (ps_ret (pe_lst (pa_cons (pv 0) pa_nil)))) pss_nil)
      (pss_cons (ps_set (i := 3) sc__law_ways.nd rfl (.inl rfl) (pe_lst (pa_cons (pe_lst pa_nil) pa_nil)))
      (pss_cons (ps_for PassesOwn.never rfl (pi_list (pe_ix ix_tup (pv 0) pe_int (fun _ _ => rfl))) (pg_name (i := 4) sc__law_ways.nd rfl (.inl rfl))
        (pss_cons (ps_set (i := 5) sc__law_ways.nd rfl (.inl rfl) (pe_lst pa_nil))
        (pss_cons (ps_for PassesOwn.never rfl (pi_list (pv 3)) (pg_name (i := 6) sc__law_ways.nd rfl (.inr rfl))
          (pss_one (ps_set (i := 5) sc__law_ways.nd rfl (.inl rfl) (pe_op op_cat (pv 5) (pe_lc (own := [("_law_one", 2)]) (g := gName 2) (tt := tYes) rfl sc__law_ways.nd (pi_list (C8.pe_c ih hr (Nat.le_refl _) rfl (pa_cons (pv 4) pa_nil))) (blkOk_by (N := N__law_ways) (sc := defScope s__law_ways) (by decide +kernel)) (fun _ _ _ _ _ => (pg_name (i := 2) sc__law_ways.nd rfl (.inl rfl))) (fun _ _ _ _ _ => pts_nil) (fun _ _ _ _ _ => (pe_op op_cat (pv 6) (pe_lst (pa_cons (pv 2) pa_nil)))))))))
        (pss_one (ps_set (i := 3) sc__law_ways.nd rfl (.inl rfl) (pv 5))))))
      (pss_one (ps_ret (pe_lc (own := [("_law_row", 6)]) (g := gName 6) (tt := tYes) rfl sc__law_ways.nd (pi_list (pv 3)) (blkOk_by (N := N__law_ways) (sc := defScope s__law_ways) (by decide +kernel)) (fun _ _ _ _ _ => (pg_name (i := 6) sc__law_ways.nd rfl (.inl rfl))) (fun _ _ _ _ _ => pts_nil) (fun _ _ _ _ _ => (pe_tup (pa_cons (pe_ix (ix_tupK (K := K) rfl) (pv 0) pe_int (fun _ _ => rfl)) (pa_cons (pv 6) pa_nil)))))))))))), ?_⟩
      refine ⟨_, rfl, t, _, 0, .str p.wd, rfl, rfl, .inl (.inl ht), atI_nat (j := 0) rfl, rfl, _, rfl, ?_⟩
      cases p with
      | ours a b =>
        rw [show decide (V.str (Pl.ours a b).wd = V.str "either") = false from ne_str (by show ¬ ("ours" : Str) = "either"; decide +kernel)]
        refine iteF ⟨_, rfl, t, _, 0, .str "ours", rfl, rfl, .inl (.inl ht), atI_nat (j := 0) rfl, rfl, _, rfl, ?_⟩
        rw [ne_str (show ¬ ("ours" : Str) = "within" by decide +kernel)]
        refine iteF ⟨_, rfl, t, _, 0, .str "ours", rfl, rfl, .inl (.inl ht), atI_nat (j := 0) rfl, (by show 2 ≤ sizeLine; decide), fun g ng => ?_⟩
        have sg := same_upd (o := .lst [.str "ours", .str "weather"]) ng
        refine ⟨g, [.str "ours", .str "weather"], rfl, .inl (.inl (.inl upd_same)), rfl, rfl, _, rfl, ?_⟩
        show if inV (.str "ours") [.str "ours", .str "weather"] = true then _ else _
        rw [two_in, decide_eq_true (show ("ours" : Str) = "ours" ∨ ("ours" : Str) = "weather" from .inl rfl)]
        refine iteT ⟨_, rfl, (by show 1 ≤ sizeLine; decide), fun D nD => ?_⟩
        have sD := sg.trans (same_upd (o := .lst [.ref t]) nD)
        exact q D [.ref t] _ sD upd_same ⟨_, [], rfl, hp.same sD, rfl⟩
      | wthr a b c =>
        rw [show decide (V.str (Pl.wthr a b c).wd = V.str "either") = false from ne_str (by show ¬ ("weather" : Str) = "either"; decide +kernel)]
        refine iteF ⟨_, rfl, t, _, 0, .str "weather", rfl, rfl, .inl (.inl ht), atI_nat (j := 0) rfl, rfl, _, rfl, ?_⟩
        rw [ne_str (show ¬ ("weather" : Str) = "within" by decide +kernel)]
        refine iteF ⟨_, rfl, t, _, 0, .str "weather", rfl, rfl, .inl (.inl ht), atI_nat (j := 0) rfl, (by show 2 ≤ sizeLine; decide), fun g ng => ?_⟩
        have sg := same_upd (o := .lst [.str "ours", .str "weather"]) ng
        refine ⟨g, [.str "ours", .str "weather"], rfl, .inl (.inl (.inl upd_same)), rfl, rfl, _, rfl, ?_⟩
        show if inV (.str "weather") [.str "ours", .str "weather"] = true then _ else _
        rw [two_in, decide_eq_true (show ("weather" : Str) = "ours" ∨ ("weather" : Str) = "weather" from .inr rfl)]
        refine iteT ⟨_, rfl, (by show 1 ≤ sizeLine; decide), fun D nD => ?_⟩
        have sD := sg.trans (same_upd (o := .lst [.ref t]) nD)
        exact q D [.ref t] _ sD upd_same ⟨_, [], rfl, hp.same sD, rfl⟩
      | wthn m p =>
        obtain ⟨t', u, e1, h2, h3⟩ := hp
        cases e1
        have d : p.dp + 1 ≤ n + 1 := d
        have lc : p.lc ≤ 12 := lc
        rw [show decide (V.str (Pl.wthn m p).wd = V.str "either") = false from ne_str (by show ¬ ("within" : Str) = "either"; decide +kernel)]
        refine iteF ⟨_, rfl, t, _, 0, .str "within", rfl, rfl, .inl (.inl h2), atI_nat (j := 0) rfl, rfl, _, rfl, ?_⟩
        rw [eq_str]
        refine iteT ⟨_, rfl, t, _, 2, u, rfl, rfl, .inl (.inl h2), atI_nat (j := 2) rfl, u, p, rfl, h3, ok, by omega, lc, fun L xs H2 s2 hL RL => ⟨L, rfl, ⟨_, .inl (.inl hL)⟩, fun D nD => ?_⟩⟩
        have lw : p.ways.length ≤ 4096 := by
          rw [ways_len]
          exact rc_12 ok lc
        refine lc_it (walk_listN (K := K) (a := L) RL.len) (fun i H3 => Same H2 H3 ∧ ∃ acc, H3 D = some (.lst acc) ∧ Paired (fun v y => ∃ t' u', v = V.ref t' ∧ H3 t' = some (.tup [.str "within", .int m, u']) ∧ PlAt H2 y u') acc (p.ways.take i)) ⟨same_upd nD, [], upd_same, .nil⟩ (fun i H3 _ h => .inl (.inl (h.1 _ _ hL))) ?_ ?_
        · rintro i x H3 H3' hi ⟨s3, acc, d3, pr⟩ ⟨rfl, hv⟩
          obtain ⟨y, ey⟩ : ∃ y, p.ways[i]? = some y := ⟨_, List.getElem?_eq_getElem hi⟩
          have la := pr.length
          rw [List.length_take] at la
          have ht3 := (s2.trans s3) _ _ h2
          refine ⟨rfl, yes_i (iteT ⟨_, rfl, 2, rfl, t, _, rfl, ht3, fun k H4 s4 e4 => ⟨_, rfl, (by show 1 ≤ sizeLine; decide), fun a na => ?_⟩⟩)⟩
          have sa := same_upd (o := .tup [x]) na
          refine ⟨k, a, _, _, rfl, rfl, sa _ _ e4, upd_same, (by show 2 + 1 ≤ sizeLine; decide), fun t2 H5 s5 e5 => ?_⟩
          have s35 := (s4.trans sa).trans s5
          refine ⟨acc, s35 _ _ d3, mil' _ (by omega), same_put (s3.trans s35) nD, acc ++ [.ref t2], upd_same, ?_⟩
          rw [List.take_add_one, ey]
          have kt : Kt H5 (upd H5 D (.lst (acc ++ [.ref t2]))) := Kt.upd fun zs z => by
            rw [s35 _ _ d3] at z
            cases z
          exact paired_app (Paired.mono (fun v b ⟨t', u', h1, h2, h3⟩ => ⟨t', u', h1, kt _ _ (s35 _ _ h2), h3⟩) pr) (.cons ⟨t2, x, rfl, kt _ _ e5, RL.get hv ey⟩ .nil)
        · rintro H3 ⟨s3, acc, d3, pr⟩
          rw [List.take_length] at pr
          refine q D acc H3 (s2.trans s3) d3 ?_
          show PlsAt H3 (p.ways.map (Pl.wthn m)) acc
          refine plsAt_of ?_
          have : ∀ {xs : List V} {ys : List Pl}, Paired (fun v y => ∃ t' u', v = V.ref t' ∧ H3 t' = some (.tup [.str "within", .int m, u']) ∧ PlAt H2 y u') xs ys → Paired (fun v p => PlAt H3 p v) xs (ys.map (Pl.wthn m)) := by
            intro xs ys h
            induction h with
            | nil => exact .nil
            | cons h _ ih =>
              obtain ⟨t', u', h1, h2, h3⟩ := h
              exact .cons ⟨t', u', h1, h2, h3.same s3⟩ ih
          exact this pr
      | many w ps =>
        obtain ⟨t', l, xs, e1, h2, h3, h4⟩ := hp
        cases e1
        have d : dpL ps + 1 ≤ n + 1 := d
        have lc : lcS ps ≤ 12 := lc
        have no := many_no ok.1
        have lx := h4.len
        have S : SqT K H t [.str w, .ref l] := .inl (.inl h2)
        by_cases ce : w = "either"
        · have ew : (Pl.many w ps).ways = (wayL ps).flatten := by
            show (if w = "either" then _ else _) = _
            rw [if_pos ce]
          rw [ew] at q
          rw [show decide (V.str (Pl.many w ps).wd = V.str "either") = true from decide_eq_true (by show V.str w = _; rw [ce])]
          refine iteT ⟨Nat.zero_le _, fun F0 nF0 => ?_⟩
          have sF := same_upd (o := .lst []) nF0
          refine ⟨_, rfl, t, _, 1, .ref l, rfl, rfl, .inl (.inl (sF _ _ h2)), atI_nat (j := 1) rfl, l, rfl, ⟨_, .inl (.inl (sF _ _ h3))⟩, for_list (K := K) (a := l) (xs := xs) (fun j σ H' => ∃ (Fd : Addr) (fs : List V) (y2 : Option V), σ = [some (.ref t), some (.ref Fd), y2, none, none, none, none] ∧ Same H H' ∧ H' Fd = some (.lst fs) ∧ PlsAt H' (wayL (ps.take j)).flatten fs) ⟨F0, [], none, rfl, sF, upd_same, rfl⟩ (fun j σ H' _ ⟨_, _, _, _, s, _⟩ => .inl (.inl (s _ _ h3))) ?_ ?_⟩
          · rintro j x σ H3 hv ⟨Fd, fs, y2, rfl, s3, hF3, RF⟩
            have hj : j < xs.length := (List.getElem?_eq_some_iff.mp hv).1
            obtain ⟨c, ec⟩ : ∃ c, ps[j]? = some c := ⟨_, List.getElem?_eq_getElem (by omega)⟩
            have hm := List.mem_of_getElem? ec
            have cdp := dpL_mem hm
            have clc := lcS_mem hm
            refine ⟨_, rfl, _, rfl, x, c, rfl, (h4.get hv ec).same s3, okL_mem ok.2.2.2 hm, by omega, by omega, fun D ys H4 s4 hD RD => ?_⟩
            have lf := RF.len
            have ld := RD.len
            have b1 : (wayL (ps.take j)).flatten.length ≤ 4096 := by
              rw [wayL_len.1]
              refine Nat.le_trans (rcL_le (okL_take ok.2.2.2)).1 (pow12 ?_)
              have e := lcS_app (ps := ps.take j) (qs := ps.drop j)
              rw [List.take_append_drop] at e
              omega
            have b2 : c.ways.length ≤ 4096 := by
              rw [ways_len]
              exact rc_12 (okL_mem ok.2.2.2 hm) (by omega)
            refine ⟨Fd, D, fs, ys, rfl, rfl, s4 _ _ hF3, hD, mil _ (by omega), fun N nN => ?_⟩
            have sN := same_upd (o := .lst (fs ++ ys)) nN
            refine ⟨N, fs ++ ys, _, rfl, (s3.trans s4).trans sN, upd_same, ?_⟩
            rw [flat_take ec]
            exact PlsAt.app (RD.same sN) ((RF.same s4).same sN)
          · rintro σ H3 ⟨Fd, fs, y2, rfl, s3, hF3, RF⟩
            rw [lx, List.take_length] at RF
            exact ⟨_, rfl, q Fd fs H3 s3 hF3 RF⟩
        · have ew : (Pl.many w ps).ways = (rowsOf (wayL ps)).map (Pl.many w) := by
            show (if w = "either" then _ else _) = _
            rw [if_neg ce]
          rw [ew] at q
          rw [show decide (V.str (Pl.many w ps).wd = V.str "either") = false from ne_str ce]
          refine iteF ⟨_, rfl, t, _, 0, .str w, rfl, rfl, S, atI_nat (j := 0) rfl, rfl, _, rfl, ?_⟩
          rw [ne_str no.2.2]
          refine iteF ⟨_, rfl, t, _, 0, .str w, rfl, rfl, S, atI_nat (j := 0) rfl, (by show 2 ≤ sizeLine; decide), fun g ng => ?_⟩
          have sg := same_upd (o := .lst [.str "ours", .str "weather"]) ng
          refine ⟨g, [.str "ours", .str "weather"], rfl, .inl (.inl (.inl upd_same)), rfl, rfl, _, rfl, ?_⟩
          show if inV (.str w) [.str "ours", .str "weather"] = true then _ else _
          rw [two_in, decide_eq_false (show ¬ (w = "ours" ∨ w = "weather") from fun h => h.elim no.1 no.2.1)]
          generalize upd H g (.lst [.str "ours", .str "weather"]) = H1 at sg ⊢
          refine iteF ⟨Nat.zero_le _, fun E0 nE0 => ⟨(by show 1 ≤ sizeLine; decide), fun R0 nR0 => ?_⟩⟩
          have sE := same_upd (o := .lst []) nE0
          have sR := same_upd (o := .lst [.ref E0]) nR0
          have hE := sR _ _ (upd_same (H := H1) (a := E0) (o := .lst []))
          have hR : upd (upd H1 E0 (.lst [])) R0 (.lst [.ref E0]) R0 = some (.lst [.ref E0]) := upd_same
          have s1 := (sg.trans sE).trans sR
          generalize upd (upd H1 E0 (.lst [])) R0 (.lst [.ref E0]) = H2 at s1 hE hR ⊢
          refine ⟨_, rfl, t, _, 1, .ref l, rfl, rfl, .inl (.inl (s1 _ _ h2)), atI_nat (j := 1) rfl, l, rfl, ⟨_, .inl (.inl (s1 _ _ h3))⟩, ?_⟩
          refine for_list (K := K) (a := l) (xs := xs) (fun j σ H' => ∃ (Rl : Addr) (rxs : List V) (y4 y5 y6 : Option V), σ = [some (.ref t), none, none, some (.ref Rl), y4, y5, y6] ∧ Same H H' ∧ H' Rl = some (.lst rxs) ∧ LsAt H' rxs (rowsOf (wayL (ps.take j)))) ⟨R0, [.ref E0], none, none, none, rfl, s1, hR, .cons ⟨E0, [], rfl, hE, rfl⟩ .nil⟩ (fun j σ H' _ ⟨_, _, _, _, _, _, s, _⟩ => .inl (.inl (s _ _ h3))) ?_ ?_
          · rintro j x σ H3 hv ⟨Rl, rxs, y4, y5, y6, rfl, s3, hR3, RL⟩
            have hj : j < xs.length := (List.getElem?_eq_some_iff.mp hv).1
            obtain ⟨c, ec⟩ : ∃ c, ps[j]? = some c := ⟨_, List.getElem?_eq_getElem (by omega)⟩
            have hm := List.mem_of_getElem? ec
            have cdp := dpL_mem hm
            have clc := lcS_mem hm
            have okc := okL_mem ok.2.2.2 hm
            have k4 := ok.2.2.1
            have lrx : rxs.length = (rowsOf (wayL (ps.take j))).length := RL.length
            have bnd : (rowsOf (wayL (ps.take j))).length * c.ways.length ≤ 4096 := by
              rw [rows_len, ways_len, ← rcP_step ec]
              exact rcP_take ok.2.2.2 lc
            have bw : c.ways.length ≤ 4096 := by
              rw [ways_len]
              exact rc_12 okc (by omega)
            refine ⟨Nat.zero_le _, fun W0 nW0 => ?_⟩
            have sW := same_upd (o := .lst []) nW0
            have hR4 := sW _ _ hR3
            refine ⟨_, rfl, Rl, rfl, ⟨_, .inl (.inl hR4)⟩, for_list (K := K) (a := Rl) (xs := rxs) (fun k σ H' => ∃ (Wl : Addr) (wxs : List V) (y6 : Option V), σ = [some (.ref t), none, none, some (.ref Rl), some x, some (.ref Wl), y6] ∧ Same H3 H' ∧ H' Wl = some (.lst wxs) ∧ LsAt H' wxs (((rowsOf (wayL (ps.take j))).take k).flatMap fun r => c.ways.map fun z => r ++ [z])) ⟨W0, [], _, rfl, sW, upd_same, .nil⟩ (fun k σ H' _ ⟨_, _, _, _, s, _⟩ => .inl (.inl (s _ _ hR3))) ?_ ?_⟩
            · rintro k y σ H5 hv2 ⟨Wl, wxs, y6', rfl, s5, hW5, RW⟩
              obtain ⟨r0, er0, l0, ys0, rfl, hl0, R0'⟩ := paired_at RL hv2
              have lenr : r0.length ≤ 4 := by
                have := rows_mem (List.mem_of_getElem? er0)
                rw [wayL_eq, List.length_map, List.length_take] at this
                omega
              have l0y := R0'.len
              refine ⟨_, rfl, _, rfl, x, c, rfl, (h4.get hv ec).same (s3.trans s5), okc, by omega, by omega, fun L ys H6 s6 hL RLs => ⟨L, rfl, ⟨_, .inl (.inl hL)⟩, fun D nD => ?_⟩⟩
              have s36 := s5.trans s6
              have lwx : wxs.length ≤ 4096 := by
                have := RW.length
                rw [flat_len (f := fun (r : List Pl) (z : Pl) => r ++ [z])] at this
                have h1 : ((rowsOf (wayL (ps.take j))).take k).length ≤ (rowsOf (wayL (ps.take j))).length := by
                  rw [List.length_take]
                  omega
                have h2 := Nat.mul_le_mul_right c.ways.length h1
                omega
              refine lc_it (walk_listN (K := K) (a := L) RLs.len) (fun i H7 => Same H6 H7 ∧ ∃ acc, H7 D = some (.lst acc) ∧ Paired (fun v z => ∃ l' zs, v = V.ref l' ∧ l' ≠ D ∧ H7 l' = some (.lst zs) ∧ PlsAt H6 (r0 ++ [z]) zs) acc (c.ways.take i)) ⟨same_upd nD, [], upd_same, .nil⟩ (fun i H7 _ h => .inl (.inl (h.1 _ _ hL))) ?_ ?_
              · rintro i u H7 H7' hi ⟨s7, acc, d7, pr⟩ ⟨rfl, hu'⟩
                obtain ⟨z, ez⟩ : ∃ z, c.ways[i]? = some z := ⟨_, List.getElem?_eq_getElem hi⟩
                have la := pr.length
                rw [List.length_take] at la
                have hl7 := (s36.trans s7) _ _ hl0
                refine ⟨rfl, yes_i (iteT ⟨_, rfl, _, rfl, (by show 1 ≤ sizeLine; decide), fun o no' => ?_⟩)⟩
                have so := same_upd (o := .lst [u]) no'
                refine ⟨l0, o, ys0, [u], rfl, rfl, so _ _ hl7, upd_same, mil _ (by show ys0.length + 1 ≤ 1000000; omega), fun N nN => ?_⟩
                have sN := same_upd (o := .lst (ys0 ++ [u])) nN
                have s79 := so.trans sN
                have d9 := s79 _ _ d7
                have nND : N ≠ D := fun z => by
                  rw [z, so _ _ d7] at nN
                  cases nN
                refine ⟨acc, d9, mil' _ (by omega), same_put (s7.trans s79) nD, acc ++ [.ref N], upd_same, ?_⟩
                rw [List.take_add_one, ez]
                refine paired_app (Paired.mono (fun v b ⟨l', zs, g1, g2, g3, g4⟩ => ⟨l', zs, g1, g2, by rw [upd_ne g2]; exact s79 _ _ g3, g4⟩) pr) (.cons ⟨N, ys0 ++ [u], rfl, nND, by rw [upd_ne nND]; exact upd_same, ?_⟩ .nil)
                exact PlsAt.snoc (RLs.get hu' ez) (R0'.same s36)
              · rintro H7 ⟨s7, acc, d7, pr⟩
                rw [List.take_length] at pr
                have la := pr.length
                refine ⟨Wl, D, wxs, acc, rfl, rfl, (s6.trans s7) _ _ hW5, d7, mil _ (by omega), fun N nN => ?_⟩
                have sN := same_upd (o := .lst (wxs ++ acc)) nN
                have s57 := (s6.trans s7).trans sN
                refine ⟨N, wxs ++ acc, _, rfl, s5.trans s57, upd_same, ?_⟩
                rw [List.take_add_one, er0, List.flatMap_append]
                refine paired_app (LsAt.same s57 RW) ?_
                show Paired _ acc ((c.ways.map fun z => r0 ++ [z]) ++ [])
                rw [List.append_nil]
                have conv : ∀ {xs : List V} {zs : List Pl}, Paired (fun v z => ∃ l' zs, v = V.ref l' ∧ l' ≠ D ∧ H7 l' = some (.lst zs) ∧ PlsAt H6 (r0 ++ [z]) zs) xs zs → LsAt (upd H7 N (.lst (wxs ++ acc))) xs (zs.map fun z => r0 ++ [z]) := by
                  intro xs zs h
                  induction h with
                  | nil => exact .nil
                  | cons h _ ih =>
                    obtain ⟨l', zs, g1, _, g3, g4⟩ := h
                    exact .cons ⟨l', zs, g1, sN _ _ g3, g4.same (s7.trans sN)⟩ ih
                exact conv pr
            · rintro σ H5 ⟨Wl, wxs, y6', rfl, s5, hW5, RW⟩
              rw [lrx, List.take_length] at RW
              refine ⟨_, rfl, Wl, wxs, _, _, _, rfl, s3.trans s5, hW5, ?_⟩
              rw [wayL_take ec]
              exact RW
          · rintro σ H3 ⟨Rl, rxs, y4, y5, y6, rfl, s3, hR3, RL⟩
            rw [lx, List.take_length] at RL
            have lrx : rxs.length = (rowsOf (wayL ps)).length := RL.length
            have bw : (rowsOf (wayL ps)).length ≤ 4096 := by
              have := rcP_take (i := ps.length) ok.2.2.2 lc
              rw [List.take_length] at this
              rw [rows_len]
              exact this
            refine ⟨_, rfl, Rl, rfl, ⟨_, .inl (.inl hR3)⟩, fun D nD => ?_⟩
            refine lc_it (walk_listN (K := K) (a := Rl) lrx) (fun i H4 => Same H3 H4 ∧ ∃ acc, H4 D = some (.lst acc) ∧ Paired (fun v r => ∃ t' l' zs, v = V.ref t' ∧ H4 t' = some (.tup [.str w, .ref l']) ∧ H3 l' = some (.lst zs) ∧ PlsAt H3 r zs) acc ((rowsOf (wayL ps)).take i)) ⟨same_upd nD, [], upd_same, .nil⟩ (fun i H4 _ h => .inl (.inl (h.1 _ _ hR3))) ?_ ?_
            · rintro i u H4 H4' hi ⟨s4, acc, d4, pr⟩ ⟨rfl, hu'⟩
              obtain ⟨r0, er0, l0, ys0, rfl, hl0, R0'⟩ := paired_at RL hu'
              have la := pr.length
              rw [List.length_take] at la
              refine ⟨rfl, yes_i (iteT ⟨_, rfl, t, _, 0, .str w, rfl, rfl, .inl (.inl ((s3.trans s4) _ _ h2)), atI_nat (j := 0) rfl, _, rfl, (by show 2 ≤ sizeLine; decide), fun a na => ?_⟩)⟩
              have sa := same_upd (o := .tup [.str w, .ref l0]) na
              refine ⟨acc, sa _ _ d4, mil' _ (by omega), same_put (s4.trans sa) nD, acc ++ [.ref a], upd_same, ?_⟩
              have kt : Kt (upd H4' a (.tup [.str w, .ref l0])) (upd (upd H4' a (.tup [.str w, .ref l0])) D (.lst (acc ++ [.ref a]))) := Kt.upd fun zs z => by
                rw [sa _ _ d4] at z
                cases z
              rw [List.take_add_one, er0]
              exact paired_app (Paired.mono (fun v b ⟨t', l', zs, g1, g2, g3, g4⟩ => ⟨t', l', zs, g1, kt _ _ (sa _ _ g2), g3, g4⟩) pr) (.cons ⟨a, l0, ys0, rfl, kt _ _ upd_same, hl0, R0'⟩ .nil)
            · rintro H4 ⟨s4, acc, d4, pr⟩
              rw [List.take_length] at pr
              refine q D acc H4 (s3.trans s4) d4 (plsAt_of ?_)
              have conv : ∀ {xs : List V} {rs : List (List Pl)}, Paired (fun v r => ∃ t' l' zs, v = V.ref t' ∧ H4 t' = some (.tup [.str w, .ref l']) ∧ H3 l' = some (.lst zs) ∧ PlsAt H3 r zs) xs rs → Paired (fun v p => PlAt H4 p v) xs (rs.map (Pl.many w)) := by
                intro xs rs h
                induction h with
                | nil => exact .nil
                | cons h _ ih =>
                  obtain ⟨t', l', zs, g1, g2, g3, g4⟩ := h
                  exact .cons ⟨t', l', zs, g1, g2, s4 _ _ g3, g4.same s4⟩ ih
              exact conv pr
end
end Tw

set_option maxHeartbeats 4000000
namespace Tw
open PySem PySem.Spec PyProof.Rows L2
/-! what the readings are like -/
theorem rows_of : ∀ {ps : List Pl} {r : List Pl}, r ∈ rowsOf (wayL ps) → ∀ x ∈ r, ∃ p ∈ ps, x ∈ p.ways := by
  have gen : ∀ (ws acc : List (List Pl)) (Good : Pl → Prop), (∀ r ∈ acc, ∀ x ∈ r, Good x) → (∀ w ∈ ws, ∀ x ∈ w, Good x) → ∀ r ∈ ws.foldl (fun rows w => rows.flatMap fun r => w.map fun x => r ++ [x]) acc, ∀ x ∈ r, Good x := by
    intro ws
    induction ws with
    | nil => exact fun acc Good h _ r hr => h r hr
    | cons w ws ih =>
      intro acc Good h1 h2 r hr
      refine ih _ Good (fun r' hr' x hx => ?_) (fun w' hw => h2 w' (List.mem_cons_of_mem _ hw)) r hr
      obtain ⟨r1, g1, g2⟩ := List.mem_flatMap.mp hr'
      obtain ⟨y, hy, rfl⟩ := List.mem_map.mp g2
      rcases List.mem_append.mp hx with hx | hx
      · exact h1 r1 g1 x hx
      · rw [List.mem_singleton.mp hx]
        exact h2 w List.mem_cons_self y hy
  intro ps r hr
  refine gen (wayL ps) [[]] (fun x => ∃ p ∈ ps, x ∈ p.ways) (fun r hr x hx => ?_) (fun w hw x hx => ?_) r hr
  · rw [List.mem_singleton.mp hr] at hx
    cases hx
  · rw [wayL_eq] at hw
    obtain ⟨p, hp, rfl⟩ := List.mem_map.mp hw
    exact ⟨p, hp, hx⟩
theorem okL_of : ∀ {ps : List Pl}, (∀ p ∈ ps, p.ok) → okL ps
  | [], _ => True.intro
  | _ :: _, h => ⟨h _ List.mem_cons_self, okL_of fun p hp => h p (List.mem_cons_of_mem _ hp)⟩
theorem dpL_of : ∀ {ps : List Pl} {n : Nat}, (∀ p ∈ ps, p.dp ≤ n) → dpL ps ≤ n
  | [], _, _ => Nat.zero_le _
  | p :: r, n, h => by
    show max p.dp (dpL r) ≤ n
    have h1 := h p List.mem_cons_self
    have h2 := dpL_of (n := n) fun q hq => h q (List.mem_cons_of_mem _ hq)
    omega
mutual
theorem ways_ok : ∀ {p q : Pl}, p.ok → q ∈ p.ways → q.ok ∧ q.dp ≤ p.dp
  | .ours a b, q, _, h => by
    rw [List.mem_singleton.mp h]
    exact ⟨True.intro, Nat.le_refl _⟩
  | .wthr a b c, q, _, h => by
    rw [List.mem_singleton.mp h]
    exact ⟨True.intro, Nat.le_refl _⟩
  | .wthn n p, q, ok, h => by
    obtain ⟨y, hy, rfl⟩ := List.mem_map.mp (show q ∈ p.ways.map (Pl.wthn n) from h)
    obtain ⟨h1, h2⟩ := ways_ok (p := p) ok hy
    exact ⟨h1, Nat.succ_le_succ h2⟩
  | .many w ps, q, ok, h => by
    have hl := waysL_ok (ps := ps) ok.2.2.2
    have h : q ∈ (if w = "either" then (wayL ps).flatten else (rowsOf (wayL ps)).map (Pl.many w)) := h
    by_cases c : w = "either"
    · rw [if_pos c] at h
      obtain ⟨ws, h1, h2⟩ := List.mem_flatten.mp h
      rw [wayL_eq] at h1
      obtain ⟨p, hp, rfl⟩ := List.mem_map.mp h1
      obtain ⟨g1, g2⟩ := hl p hp q h2
      exact ⟨g1, Nat.le_succ_of_le g2⟩
    · rw [if_neg c] at h
      obtain ⟨r, hr, rfl⟩ := List.mem_map.mp h
      have len := rows_mem hr
      rw [wayL_eq, List.length_map] at len
      have each : ∀ x ∈ r, x.ok ∧ x.dp ≤ dpL ps := fun x hx => by
        obtain ⟨p, hp, hx'⟩ := rows_of hr x hx
        exact hl p hp x hx'
      have k1 := ok.2.1
      have k4 := ok.2.2.1
      exact ⟨⟨ok.1, by omega, by omega, okL_of fun x hx => (each x hx).1⟩, Nat.succ_le_succ (dpL_of fun x hx => (each x hx).2)⟩
theorem waysL_ok : ∀ {ps : List Pl}, okL ps → ∀ p ∈ ps, ∀ x ∈ p.ways, x.ok ∧ x.dp ≤ dpL ps
  | [], _, _, h, _, _ => nomatch h
  | a :: r, ok, p, hp, x, hx => by
    show x.ok ∧ x.dp ≤ max a.dp (dpL r)
    rcases List.mem_cons.mp hp with e | e
    · obtain ⟨h1, h2⟩ := ways_ok (p := a) (q := x) ok.1 (e ▸ hx)
      exact ⟨h1, by omega⟩
    · obtain ⟨h1, h2⟩ := waysL_ok (ps := r) ok.2 p e x hx
      exact ⟨h1, by omega⟩
end
mutual
theorem rc_ge : ∀ {p : Pl}, p.ok → 1 ≤ p.rc
  | .ours _ _, _ => Nat.le_refl _
  | .wthr _ _ _, _ => Nat.le_refl _
  | .wthn _ p, h => rc_ge (p := p) h
  | .many w ps, h => by
    obtain ⟨h1, h2⟩ := rcL_ge (ps := ps) h.2.2.2
    show 1 ≤ if w = "either" then rcS ps else rcP ps
    by_cases c : w = "either"
    · rw [if_pos c]
      have := h.2.1
      omega
    · rw [if_neg c]
      exact h2
theorem rcL_ge : ∀ {ps : List Pl}, okL ps → ps.length ≤ rcS ps ∧ 1 ≤ rcP ps
  | [], _ => ⟨Nat.le_refl _, Nat.le_refl _⟩
  | p :: r, h => by
    have h1 := rc_ge (p := p) h.1
    obtain ⟨h2, h3⟩ := rcL_ge (ps := r) h.2
    refine ⟨by show r.length + 1 ≤ p.rc + rcS r; omega, ?_⟩
    show 1 ≤ p.rc * rcP r
    exact Nat.mul_le_mul h1 h3
end
theorem oV_flat {la : Option Int} : flatV (oV la) = true := by
  cases la <;> rfl
mutual
theorem sm_pl {H : Hp} : ∀ {p : Pl} {n : Nat} {u v : V}, p.ok → p.dp ≤ n → PlAt H p u → PlAt H p v → Sm (2 * n) u v H
  | .ours a b, n, u, v, _, d, hu, hv => by
    have d : 1 ≤ n := d
    obtain ⟨t, rfl, h1⟩ := hu
    obtain ⟨t', rfl, h2⟩ := hv
    obtain ⟨m, rfl⟩ : ∃ m, n = m + 1 := ⟨n - 1, by omega⟩
    exact sm_tup (n := 2 * m + 1) h1 h2 rfl (by show 3 ≤ 1000; decide) (sm_flats rfl)
  | .wthr a b c, n, u, v, _, d, hu, hv => by
    have d : 1 ≤ n := d
    obtain ⟨t, rfl, h1⟩ := hu
    obtain ⟨t', rfl, h2⟩ := hv
    obtain ⟨m, rfl⟩ : ∃ m, n = m + 1 := ⟨n - 1, by omega⟩
    refine sm_tup (n := 2 * m + 1) h1 h2 rfl (by show 4 ≤ 1000; decide) (sm_flats ?_)
    show (true && (true && (true && (flatV (oV c) && true)))) = true
    rw [oV_flat]
    rfl
  | .wthn k p, n, u, v, ok, d, hu, hv => by
    have d : p.dp + 1 ≤ n := d
    obtain ⟨t, x, rfl, h1, g1⟩ := hu
    obtain ⟨t', y, rfl, h2, g2⟩ := hv
    obtain ⟨m, rfl⟩ : ∃ m, n = m + 1 := ⟨n - 1, by omega⟩
    have sub := sm_pl (p := p) (n := m) ok (by omega) g1 g2
    refine sm_tup (n := 2 * m + 1) h1 h2 rfl (by show 3 ≤ 1000; decide) fun i a b ha hb => ?_
    match i, ha, hb with
    | 0, ha, hb =>
      cases ha
      cases hb
      exact Sm.flat rfl
    | 1, ha, hb =>
      cases ha
      cases hb
      exact Sm.flat rfl
    | 2, ha, hb =>
      cases ha
      cases hb
      exact sub.succ
    | i + 3, ha, hb => cases ha
  | .many w ps, n, u, v, ok, d, hu, hv => by
    have d : dpL ps + 1 ≤ n := d
    obtain ⟨t, l, xs, rfl, h1, g1, r1⟩ := hu
    obtain ⟨t', l', ys, rfl, h2, g2, r2⟩ := hv
    obtain ⟨m, rfl⟩ : ∃ m, n = m + 1 := ⟨n - 1, by omega⟩
    have sub := sm_pls (ps := ps) (n := m) ok.2.2.2 (by omega) r1 r2
    have k4 := ok.2.2.1
    have l1 := r1.len
    have l2 := r2.len
    refine sm_tup (n := 2 * m + 1) h1 h2 rfl (by show 2 ≤ 1000; decide) fun i a b ha hb => ?_
    match i, ha, hb with
    | 0, ha, hb =>
      cases ha
      cases hb
      exact Sm.flat rfl
    | 1, ha, hb =>
      cases ha
      cases hb
      exact sm_lst (n := 2 * m) g1 g2 (by omega) (by omega) sub
    | i + 2, ha, hb => cases ha
theorem sm_pls {H : Hp} : ∀ {ps : List Pl} {n : Nat} {xs ys : List V}, okL ps → dpL ps ≤ n → PlsAt H ps xs → PlsAt H ps ys → ∀ (i : Nat) (x y : V), xs[i]? = some x → ys[i]? = some y → Sm (2 * n) x y H
  | [], n, xs, ys, _, _, h1, _, i, x, y, hx, _ => by
    have h1 : xs = [] := h1
    rw [h1] at hx
    cases hx
  | p :: r, n, xs, ys, ok, d, h1, h2, i, x, y, hx, hy => by
    have d : max p.dp (dpL r) ≤ n := d
    obtain ⟨x0, xs', rfl, a1, a2⟩ := h1
    obtain ⟨y0, ys', rfl, b1, b2⟩ := h2
    match i, hx, hy with
    | 0, hx, hy =>
      cases hx
      cases hy
      exact sm_pl (p := p) ok.1 (by omega) a1 b1
    | i + 1, hx, hy => exact sm_pls (ps := r) ok.2 (by omega) a2 b2 i x y hx hy
end
theorem PlsAt.tail {H : Hp} {ps : List Pl} {xs : List V} (h : PlsAt H ps xs) : PlsAt H (ps.drop 1) (xs.drop 1) := by
  match ps, h with
  | [], h =>
    have h : xs = [] := h
    rw [h]
    rfl
  | p :: r, h =>
    obtain ⟨x, ys, rfl, _, h3⟩ := h
    exact h3
theorem cut_drop {xs : List V} (h : 0 < xs.length) : cutV xs (some 1) none = xs.drop 1 := by
  unfold cutV
  have e1 : HT.sIx xs.length 0 (some 1) = 1 := by
    show (if (1 : Int) < 0 then (1 + (xs.length : Int)).toNat else min 1 xs.length) = 1
    rw [if_neg (by decide)]
    omega
  rw [e1, HT.sIx_none, List.take_of_length_le]
  rw [List.length_drop]
  exact Nat.le_refl _
section
variable {P : Program} {w : World} {K : PySem.W.Frag} {mg : Str → Option Value} {base : Heap}
def sp_law (K : PySem.W.Frag) : Sp := fun vs H Q _ => ∃ (a : Addr) (ns : List Int), vs = [.ref a] ∧ SqL K H a (ns.map V.int) ∧ ∀ H', Q (.bl true) H'
theorem ok_law (T : Tp K mg) {fd : FuncData} (F : FunD K "law" "law" (defArgs s_law) (defBody s_law) (defScope s_law) [] [] (He.ga K "law") fd) : FnOk P w K mg base CX0 20 (He.ga K "law") fd ["_law_script"] (sp_law K) := by
  refine fnok_of F sc_law (fun vs H Q E h => ?_) (fun cdv A outer s H vs Q E hr h => ?_)
  · obtain ⟨a, ns, rfl, _⟩ := h
    rfl
  · obtain ⟨a, ns, rfl, hS, q⟩ := h
    have hu := hu_of hr
    refine ⟨_, (pss_cons (ps_set (i := 1) sc_law.nd rfl (.inl rfl) (C8.pe_c (cal__law_flow T) hr (by decide) rfl (pa_cons (pv 0) pa_nil)))
      (pss_cons (ps_set (i := 2) sc_law.nd rfl (.inl rfl) (pe_lst (pa_cons pe_str (pa_cons pe_str (pa_cons pe_str (pa_cons pe_str (pa_cons pe_str pa_nil)))))))
      (pss_cons (ps_for PassesOwn.never rfl (pi_range1 rfl (z_range T) (pa_cons pe_int pa_nil)) (pg_name (i := 3) sc_law.nd rfl (.inl rfl))
        (pss_cons (ps_set (i := 4) sc_law.nd rfl (.inl rfl) (C8.pe_c (cal_plan T 5) hr (by decide) rfl (pa_cons (pv 1) (pa_cons pe_int (pa_cons (pv 2) (pa_cons pe_int pa_nil))))))
        (pss_one (ps_if (pt_val (C8.pe_c (cal_gplan T 4) hr (by decide) rfl (pa_cons (pv 4) pa_nil))) (pss_cons (ps_set (i := 5) sc_law.nd rfl (.inl rfl) (C8.pe_c (cal_pcopy T 4) hr (by decide) rfl (pa_cons (pv 4) pa_nil)))
          (pss_cons (ps_set (i := 6) sc_law.nd rfl (.inl rfl) (C8.pe_c (cal_ways T 4) hr (by decide) rfl (pa_cons (pv 4) pa_nil)))
          (pss_one (ps_for PassesOwn.never rfl (pi_range1 rfl (z_range T) (pa_cons pe_int pa_nil)) (pg_name (i := 7) sc_law.nd rfl (.inl rfl))
            (pss_cons (ps_set (i := 8) sc_law.nd rfl (.inl rfl) (C8.pe_c (cal_readings T) hr (by decide) rfl (pa_cons (pv 5) pa_nil)))
            (pss_cons (ps_if (PW.pt (pw_or (pt_not (pt_val (C8.pe_c (cal_same T 10) hr (by decide) rfl (pa_cons (pv 8) (pa_cons (pv 6) pa_nil))))) (pw_or1 (pt_not (pt_val (C8.pe_c (cal_same T 10) hr (by decide) rfl (pa_cons (pv 5) (pa_cons (pv 4) pa_nil)))))))) (pss_one (ps_ret pe_bl)) pss_nil)
            (pss_cons (ps_expr (C8.pe_c (cal_wreck T 4) hr (by decide) rfl (pa_cons (pe_ix ix_list (pv 8) pe_int (fun _ _ => rfl)) pa_nil)))
            (pss_cons (ps_if (PW.pt (pw_or (pt_not (pt_val (C8.pe_c (cal_same T 10) hr (by decide) rfl (pa_cons (pe_slice sl_list (pv 8) (po_some pe_int) po_none) (pa_cons (pe_slice sl_list (pv 6) (po_some pe_int) po_none) pa_nil))))) (pw_or1 (pt_not (pt_val (C8.pe_c (cal_same T 10) hr (by decide) rfl (pa_cons (pv 5) (pa_cons (pv 4) pa_nil)))))))) (pss_one (ps_ret pe_bl)) pss_nil)
            (pss_one (ps_expr (pe_bm0 PySem.F.plainAttrs_list PySem.F.slot_list_reverse PySem.F.type_list_reverse mt_reverse (pv 8)))))))))))) pss_nil))))
      (pss_one (ps_ret (C8.pe_c (cal_same T 10) hr (by decide) rfl (pa_cons (C8.pe_c (cal_readings T) hr (by decide) rfl (pa_cons (pe_tup (pa_cons pe_str (pa_cons pe_int (pa_cons pe_int pa_nil)))) pa_nil)) (pa_cons (pe_lst (pa_cons (pe_tup (pa_cons pe_str (pa_cons pe_int (pa_cons pe_int pa_nil)))) pa_nil)) pa_nil)))))))), ?_⟩
    refine ⟨_, rfl, a, ns, rfl, hS, fun f c H1 s1 nf nc F1 => ⟨(by show 5 ≤ sizeLine; decide), fun W nW => ?_⟩⟩
    have sW := same_upd (o := .lst ((["then", "either", "beside", "either", "within"] : List Str).map V.str)) nW
    obtain ⟨zs1, hf1⟩ := F1.lst
    have Wf : W ≠ f := (ne_of_none hf1 nW).symm
    have wok : WdsOk ["then", "either", "beside", "either", "within"] := by
      refine ⟨by decide, by decide, fun z hz => ?_⟩
      simp only [List.mem_cons, List.not_mem_nil, or_false] at hz
      rcases hz with rfl | rfl | rfl | rfl | rfl
      · exact .inl (.inl rfl)
      · exact .inl (.inr (.inr rfl))
      · exact .inl (.inr (.inl rfl))
      · exact .inl (.inr (.inr rfl))
      · exact .inr rfl
    refine ⟨4, rfl, by decide, by decide, for_range (lo := 0) (n := 4) (fun i σ H' => ∃ y3 y4 y5 y6 y7 y8 : Option V, σ = [some (.ref a), some (.ref f), some (.ref W), y3, y4, y5, y6, y7, y8] ∧ Flow H' f c ∧ H' W = some (.lst ((["then", "either", "beside", "either", "within"] : List Str).map V.str))) ⟨none, none, none, none, none, none, rfl, F1.same sW, upd_same⟩ ?_ ?_⟩
    · rintro i σ H2 _ ⟨y3, y4, y5, y6, y7, y8, rfl, F2, hW2⟩
      refine ⟨_, rfl, _, rfl, f, c, W, 4, 9, _, rfl, F2, by decide, by decide, by decide, hW2, Wf, wok, fun u p ls H3 sb3 F3 hp fr ok dp => ?_⟩
      have dp : p.dp ≤ 4 := dp
      have hW3 := sb3 _ _ hW2 Wf
      refine ⟨_, rfl, u, p, rfl, hp.at, ok, dp, by decide, fun H4 b s4 gd => ⟨_, rfl, ?_⟩⟩
      cases b with
      | false => exact iteF ⟨_, _, _, _, _, _, rfl, F3.same s4, s4 _ _ hW3⟩
      | true =>
        obtain ⟨gf, lc, rc⟩ := gd rfl
        have hp4 := hp.at.same s4
        refine iteT ⟨_, rfl, u, p, rfl, hp4, ok, dp, fun h H5 s5 N => ?_⟩
        obtain ⟨ls5, N1, N2⟩ := N
        refine ⟨_, rfl, u, p, rfl, hp4.same s5, ok, dp, lc, fun D ds H6 s6 hD RD => ?_⟩
        have hp6 := (hp4.same s5).same s6
        have hh6 := N1.at.same s6
        have s36 := (s4.trans s5).trans s6
        have hwl : p.ways.length = p.rc := ways_len
        have lds := RD.len
        have okw : okL p.ways := okL_of fun x hx => (ways_ok ok hx).1
        have dpw : dpL p.ways ≤ 4 := dpL_of fun x hx => Nat.le_trans (ways_ok ok hx).2 dp
        have rg := rc_ge ok
        refine ⟨2, rfl, by decide, by decide, for_range (lo := 0) (n := 2) (fun j σ H' => ∃ y7 y8 : Option V, σ = [some (.ref a), some (.ref f), some (.ref W), some (.int (0 + (i : Nat))), some u, some h, some (.ref D), y7, y8] ∧ Same H6 H') ⟨_, _, rfl, Same.refl _⟩ ?_ ?_⟩
        · rintro j σ H7 _ ⟨y7, y8, rfl, s7⟩
          refine ⟨_, rfl, h, p, rfl, hh6.same s7, ok, gf, by omega, lc, rc, fun Fd fxs fls H8 s8 nF hF RF frF ninF => ?_⟩
          have s68 := s7.trans s8
          have lfx := RF.len
          refine ⟨_, rfl, _, rfl, .ref Fd, .ref D, rfl, (sm_lst (n := 8) hF (s68 _ _ hD) (by omega) (by omega) (sm_pls (n := 4) okw dpw RF.at (RD.same s68))).succ, fun H9 s9 => ⟨_, rfl, iteF ?_⟩⟩
          have s69 := s68.trans s9
          refine ⟨_, rfl, _, rfl, h, u, rfl, (sm_pl (n := 4) ok dp (hh6.same s69) (hp6.same s69)).succ.succ, fun H10 s10 => ⟨_, rfl, iteF ?_⟩⟩
          have s810 := s9.trans s10
          have hF10 := s810 _ _ hF
          have RF10 := RF.same s810
          have s610 := s68.trans s810
          match hpw : p.ways, RF10 with
          | [], _ =>
            exfalso
            rw [hpw] at hwl
            have hwl : 0 = p.rc := hwl
            omega
          | q0 :: qs, RF10 =>
            obtain ⟨x0, ys, ms, ns', ex, R1, R2, el, dj⟩ := RF10
            have m0 : q0 ∈ p.ways := by
              rw [hpw]
              exact List.mem_cons_self
            have w0 := ways_ok ok m0
            refine ⟨_, rfl, Fd, fxs, 0, x0, rfl, rfl, .inl (.inl hF10), atI_nat (j := 0) (by rw [ex]; rfl), x0, q0, ms, rfl, R1, w0.1, by omega, fun H11 O11 => ?_⟩
            have subm : ∀ a ∈ ms, a ∈ fls := fun a ha => by
              rw [el]
              exact List.mem_append_left _ ha
            have hF11 := O11 _ _ hF10 fun hm => ninF (subm Fd hm)
            have R11 := R2.off O11 R1.lsts fun a ha hm => dj a hm ha
            have s611 : Same H6 H11 := fun b o hb => O11 b o (s610 b o hb) fun hm => by
              have := frF b (subm b hm)
              rw [s7 b o hb] at this
              cases this
            refine ⟨_, rfl, 1, rfl, Fd, fxs, rfl, .inl (.inl hF11), fun k1 nk1 => ?_⟩
            rw [cut_drop (by rw [ex]; show 0 < ys.length + 1; omega)]
            have sk1 := same_upd (o := .lst (fxs.drop 1)) nk1
            refine ⟨_, rfl, 1, rfl, D, ds, rfl, .inl (.inl (sk1 _ _ (s611 _ _ hD))), fun k2 nk2 => ?_⟩
            rw [cut_drop (by omega)]
            have sk2 := same_upd (o := .lst (ds.drop 1)) nk2
            have sk := sk1.trans sk2
            have e1 := sk2 _ _ (upd_same (H := H11) (a := k1) (o := .lst (fxs.drop 1)))
            have RT := (RD.same s611).tail.same sk
            rw [hpw] at RT okw dpw lds
            have RT : PlsAt _ qs (ds.drop 1) := RT
            have ey : fxs.drop 1 = ys := by rw [ex]; rfl
            have ly := R11.len
            have okq : okL qs := okw.2
            have dpq : dpL qs ≤ 4 := by
              have : max q0.dp (dpL qs) ≤ 4 := dpw
              omega
            have rl : qs.length ≤ 64 := by
              rw [hpw] at hwl
              have hwl : qs.length + 1 = p.rc := hwl
              omega
            have lt := RT.len
            refine ⟨.ref k1, .ref k2, rfl, (sm_lst (n := 8) e1 upd_same (by rw [ey]; omega) (by rw [ey]; omega) (fun i x y hx hy => sm_pls (n := 4) okq dpq (R11.at.same sk) RT i x y (by rw [← ey]; exact hx) hy)).succ, fun H12 s12 => ⟨_, rfl, iteF ?_⟩⟩
            have s612 := (s611.trans sk).trans s12
            refine ⟨_, rfl, _, rfl, h, u, rfl, (sm_pl (n := 4) ok dp (hh6.same s612) (hp6.same s612)).succ.succ, fun H13 s13 => ⟨_, rfl, iteF ?_⟩⟩
            have hF13 := ((sk.trans s12).trans s13) _ _ hF11
            refine ⟨_, rfl, .inl ⟨rfl, _, .inl (.inl hF13)⟩, Fd, _, rfl, rfl, hF13, _, _, rfl, ?_⟩
            exact same_put (s612.trans s13) (s7.free nF)
        · rintro σ H7 ⟨y7, y8, rfl, s7⟩
          exact ⟨_, _, _, _, _, _, rfl, F3.same (s36.trans s7), (s36.trans s7) _ _ hW3⟩
    · rintro σ H2 ⟨y3, y4, y5, y6, y7, y8, rfl, F2, hW2⟩
      refine ⟨(by show 3 ≤ sizeLine; decide), fun t nt => ?_⟩
      have st := same_upd (o := .tup [.str "ours", .int 1, .int 2]) nt
      have hp : PlAt (upd H2 t (.tup [.str "ours", .int 1, .int 2])) (.ours 1 2) (.ref t) := ⟨t, rfl, upd_same⟩
      refine ⟨.ref t, .ours 1 2, rfl, hp, True.intro, rfl, by decide, by decide, by decide, fun Fd fxs fls H3 s3 nF hF RF frF ninF => ?_⟩
      refine ⟨(by show 3 ≤ sizeLine; decide), fun t2 nt2 => ⟨(by show 1 ≤ sizeLine; decide), fun l2 nl2 => ?_⟩⟩
      have st2 := same_upd (o := .tup [.str "ours", .int 1, .int 2]) nt2
      have sl2 := same_upd (o := .lst [.ref t2]) nl2
      have sA := st2.trans sl2
      have R2 : PlsAt (upd (upd H3 t2 (.tup [.str "ours", .int 1, .int 2])) l2 (.lst [.ref t2])) [.ours 1 2] [.ref t2] := ⟨_, [], rfl, ⟨t2, rfl, sl2 _ _ upd_same⟩, rfl⟩
      have R1 : PlsAt _ [.ours 1 2] fxs := RF.at.same sA
      have l1 := R1.len
      exact ⟨.ref Fd, .ref l2, rfl, (sm_lst (n := 8) (sA _ _ hF) upd_same (by rw [l1]; rfl) (by rw [l1]; show 1 ≤ 1000; decide) (sm_pls (ps := [.ours 1 2]) (n := 4) ⟨True.intro, True.intro⟩ (by decide) R1 R2)).succ, fun H4 s4 => q H4⟩
end
end Tw

set_option maxHeartbeats 0
namespace Tw
open PySem PySem.Spec PyProof.Rows L2
theorem facts {P : Program} {w : World} {K : PySem.W.Frag} {h : Heap} {mg : Str → Option Value} {f : Addr} (X : K.In h) (G : h.Ns mainGlobals mg) (hfa : mg ("law" : Str) = some (.ref f)) (c : He.SaysD fa fn K) :
    ∃ fd : FuncData, (∀ (s : Shared) (v : Value), BindsTo s fd ⟨[v], []⟩ [("_law_script", v)]) ∧ ∀ base : Heap, FnOk P w K mg base CX0 20 f fd ["_law_script"] (sp_law K) := by
  have T : Tp K mg := tp_mk X G c rfl
  have e := hfa.symm.trans (g_law T)
  cases e
  obtain ⟨fd, F⟩ := f_law T
  have b := FunD.bindsA (ps := ["_law_script"]) F fun _ _ _ _ _ _ us hl => match us, hl with
    | [_], _ => rfl
  exact ⟨fd, fun s v => b s [v] rfl, fun base => ok_law T F⟩
end Tw
open PySem PySem.W PySem.Calls PyProof.Rows
theorem PySem.Challenge.cw_tidewaiter_k50_readings_told_holds : PySem.Challenge.rw_tidewaiter_k50_readings_told.Holds := by
  w_on; o_law
  refine HandSHeadRun.head_any (r := Tw.R) (q := view Tw.R.prog [Tw.lawAt]) (H := Tw.hk) (ob := Tw.ob) (M := 8000) (loose := Tw.loose) (d := HandSHeadRun.topDef Tw.R.prog Tw.lawAt) (kwd := []) Tw.ob_eq
    (by kernel_rfl) (fun s => by kernel_rfl) Tw.run (by kernel_rfl) (by kernel_rfl) (by kernel_rfl) (by rfl) (by first | assumption | decide +kernel) (by decide +kernel) ⟨rfl, rfl, rfl, rfl, rfl, by decide +kernel⟩ ?hw ?hc
  case hw => w_witness2
  case hc =>
    refine L2.walk_ofE (l := PySem.Challenge.rw_tidewaiter_k50_readings_told) (n := 63) (k := 20) (x := "_law_script") (CX := L2.CX0) rfl (by decide) (by kernel_rfl) ⟨rfl, by decide, by decide⟩ ?F (fun _ _ _ _ z => z)
    intro w mg fa h Y G hmg0
    obtain ⟨K, KX, c⟩ := Y
    have hmg : mg ("law" : PySem.Str) = some (.ref fa) := by
      have e : (HandSHeadRun.topDef Tw.R.prog Tw.lawAt).name = ("law" : PySem.Str) := by kernel_rfl
      rw [← e]
      exact hmg0
    obtain ⟨fd, hb, hF⟩ := Tw.facts (P := (PySem.Challenge.rw_tidewaiter_k50_readings_told).prog) (w := w) KX G hmg c
    exact ⟨K, fd, Tw.sp_law K, KX, hb, fun H a ns hl _ hS => ⟨a, ns, rfl, hS, fun _ => rfl⟩, fun base _ _ => hF base⟩

