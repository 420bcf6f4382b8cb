import PyProof.Rows.All
import Wide.All
import OpenK.AllK
import Wide.FinOn
import KE.KStateDown
import Lean
import HandS.ForMost
import HandS.More
import HandS.Conv
import HandS.Flow
import HandS.Style
import HandS.Strs
import HandS.Codes
import HandS.SetFor
import HandS.TupSets
import HandS.SortRule
import HandS.SortInts
import HandS.TupLe
import HandS.TupAny
import HandS.IsInst
import HandS.RevTup
import HandS.Rev
import HandS.Zip
import KE.GoesEnum
import KE.GoesMore
import KE.GoesZip
import KE.KDictZip
import HandS.Walk
import HandS.SetKeys
import HandS.Defaults
import HandS.Wide
import HandS.Lambda
import HandS.GenOver
import HandS.DictComp
import HandS.AnyAll
import HandS.RevRange
import HandS.Head0
import HandS.Head1
import HandS.Head2
import HandS.HeadEnd
import HandS.HeadHook1
import HandS.HeadHook2
import HandS.HeadHook3
import HandS.HeadHook4
import HandS.EndTab
import HandS.HeadWalk
import KE.DatumOrd
import HandS.TupMul
import KE.KTupSum
import HandS.SetBool
import HandS.ExcIs
import HandS.TryMany
import HandS.TryOnly
import HandS.ExcOwn
import HandS.Exc
import KE.SortData
import KE.SortKeyHeap
import HandS.Deep
import HandS.HotCalls
import HandS.SortKw
import PySem.Challenge.RW_fewforests_k74_renamed_and_led
set_option Elab.async false
set_option linter.all false
set_option maxRecDepth 100000
set_option maxHeartbeats 0
namespace FF
open PySem PySem.Spec PyProof.Rows L2
/-- which tables of code objects are those of defs with a lambda (told when the text's end is reached) -/
class LT where
  lam : Addr → Bool
end FF
namespace FF
open PySem PySem.Spec PyProof.Rows L2
variable [LT]
/-! ### list(reversed(xs)) -/
section
variable {prog : Program} {w : World} {A : Around} {E : Value → Shared → Prop} {s : Shared}
theorem extRev {itr src : Addr} {its : Array Value} {R : Result → Shared → Prop} (calm : A.handled = none) (S : Addr) (res : Value) (c0 : Nat)
    (hS : s.heap.get? S = some { cls := .type "list", data := .seq #[] c0 }) (hit : s.heap.IsRevIter itr src ((its.size : Int) - 1)) (hl : s.heap.IsList src its) (hne : src ≠ itr) (hSi : S ≠ itr) (hSl : S ≠ src) (hn : its.size ≤ sizeLine)
    (fin : ∀ h' tk acc c, (∀ b o, b ≠ itr → b ≠ S → s.heap.get? b = some o → h'.get? b = some o) → h'.get? S = some { cls := .type "list", dict := none, data := .seq acc c, slots := #[] } →
      ItemsOf (fun i v => its[its.size - 1 - i]? = some v) acc its.size → R (.ok (.ret res)) { s with heap := h', toks := tk }) :
    wpAny (model prog w) A.in1 (Builtin.List.listExtendWith (.ref S) (.ref itr) res)
      (fun f s' => match f with | .done z => R (.ok z) s' | .again c' => c'.quiet = true ∧ codeAny (model prog w) A c' R s') (fun e s' => R (.error e) s') s := by
  have W := (Walks.listRev (prog := prog) (w := w) (A := A.in1) calm itr src hne its).toS
  have hT : s.TypeIs (.ref itr) "list_reverseiterator" := hit.typeIs
  have h1 : Builtin.List.listSameRef (.ref S) (.ref itr) = false := by simp [Builtin.List.listSameRef, hSi]
  unfold Builtin.List.listExtendWith
  refine wpAny_bind (wpAny_typeOf hT ?_)
  rw [if_neg (by rw [h1]; decide)]
  refine wpAny_bind (wpAny_pyIter_revIter hit ?_)
  refine wpAny_bind (wpAny_holding ?_)
  unfold Builtin.List.listLengthHint
  refine wpAny_bind (wpAny_specialOf hT RT.nolen_lri ?_)
  show wpAny _ A.in1 (specialOf (Value.ref itr) (Str.ofString "__length_hint__") >>= _) _ _ _
  refine wpAny_bind (wpAny_specialOf hT RT.hint_lri ?_)
  generalize hid : ("list_reverseiterator.__length_hint__" : String) = hint
  wp_delta
  rw [show splitId hint = some ("list_reverseiterator", "__length_hint__") from by subst hid; decide +kernel]
  subst hid
  refine wpAny_bind (wpAny_isInstance (b := true) hT (by rw [isSubtype_type]; kernel_rfl) ?_)
  refine wpAny_pure ?_
  rw [if_neg (by decide)]
  have e0 : ((its.size : Nat) : Int) - 1 - ((0 : Nat) : Int) = (its.size : Int) - 1 := by omega
  have hSf : S ∉ [itr, src] := by simp only [List.mem_cons, List.not_mem_nil, or_false, not_or]; exact ⟨hSi, hSl⟩
  refine wpAny_pure ⟨plainId_quiet F.plain_extend_loop _, codeAny_extend_loopS W hn S hSf _ its.size 0 _ _ _ rfl (Nat.zero_le _) ⟨Nat.zero_le _, by rw [e0]; exact hit, hl⟩ hS (ItemsOf.nil _) fun s' acc c hm hS' hacc => ?_⟩
  rw [Moved.eq_with hm]
  refine fin s'.heap s'.toks acc c (fun b o hb hb2 e => hm.heap b o (fun z => ?_) e) hS' hacc
  rcases List.mem_cons.mp z with z | z
  · exact hb2 z
  · exact hb (List.mem_singleton.mp z)
theorem initRev {itr src : Addr} {its : Array Value} {R : Result → Shared → Prop} (calm : A.handled = none) (S : Addr)
    (hS : s.heap.get? S = some { cls := .type "list", data := .seq #[] }) (hit : s.heap.IsRevIter itr src ((its.size : Int) - 1)) (hl : s.heap.IsList src its) (hne : src ≠ itr) (hSi : S ≠ itr) (hSl : S ≠ src) (hn : its.size ≤ sizeLine)
    (fin : ∀ h' tk acc c, (∀ b o, b ≠ itr → b ≠ S → s.heap.get? b = some o → h'.get? b = some o) → h'.get? S = some { cls := .type "list", dict := none, data := .seq acc c, slots := #[] } →
      ItemsOf (fun i v => its[its.size - 1 - i]? = some v) acc its.size → R (.ok (.ret .none)) { s with heap := h', toks := tk }) :
    wpAny (model prog w) A.in1 (Builtin.«list.__init__» ⟨[.ref S, .ref itr], []⟩)
      (fun f s' => match f with | .done z => R (.ok z) s' | .again c' => c'.quiet = true ∧ codeAny (model prog w) A c' R s') (fun e s' => R (.error e) s') s := by
  show wpAny _ _ (do let old ← Builtin.List.listItems (.ref S); Builtin.List.listUpdate (.ref S) (fun _ => #[]); letGo old.toList.reverse; Builtin.List.listExtendWith (.ref S) (.ref itr) .none) _ _ s
  refine wpAny_bind ?_
  unfold Builtin.List.listItems
  refine wpAny_bind (wpAny_seqItems hS rfl (wpAny_pure ?_))
  show wpAny _ _ (updateSeq S (fun _ => #[]) >>= fun _ => letGo (#[] : Array Value).toList.reverse >>= fun _ => Builtin.List.listExtendWith (.ref S) (.ref itr) .none) _ _ s
  refine wpAny_bind (wpAny_updateSeq hS rfl ?_)
  have hS2 := Heap.get?_update_self (Obj.mapSeq (fun _ => (#[] : Array Value))) hS rfl
  have oth : ∀ b o, b ≠ S → s.heap.get? b = some o → (s.heap.update S (Obj.mapSeq (fun _ => (#[] : Array Value)))).get? b = some o :=
    fun b o hb e => (Heap.get?_update_other _ _ (Ne.symm hb)).trans e
  refine wpAny_bind (wpAny_letGo ?_)
  obtain ⟨oi, hoi, ri⟩ := hit
  obtain ⟨ol, hol, rl⟩ := hl
  refine extRev (its := its) calm S .none _ hS2 ⟨oi, oth _ _ (Ne.symm hSi) hoi, ri⟩ ⟨ol, oth _ _ (Ne.symm hSl) hol, rl⟩ hne hSi hSl hn fun h' tk acc c hk hS' hacc => ?_
  exact fin h' tk acc c (fun b o hb hb2 e => hk b o hb hb2 (oth b o hb2 e)) hS' hacc
theorem listRev {itr src : Addr} {its : Array Value} {Q : Value → Shared → Prop} (calm : A.handled = none) (hit : s.heap.IsRevIter itr src ((its.size : Int) - 1)) (hl : s.heap.IsList src its) (hne : src ≠ itr) (hn : its.size ≤ sizeLine)
    (fin : ∀ h' tk acc c, (∀ b o, b ≠ itr → s.heap.get? b = some o → h'.get? b = some o) → h'.get? s.heap.objs.size = some { cls := .type "list", dict := none, data := .seq acc c, slots := #[] } →
      ItemsOf (fun i v => its[its.size - 1 - i]? = some v) acc its.size → Q (.ref s.heap.objs.size) { s with heap := h', toks := tk }) :
    wpAny (model prog w) A (call (.type "list") [.ref itr]) Q E s := by
  refine callType_codes (Q₁ := fun obj t => obj = .ref s.heap.objs.size ∧ t = { s with heap := s.heap.push { cls := .type "list", data := .seq #[] } }) F.called_list (F.typeCall_list_1 _) F.entry_list_init
    (code_list_new _ ⟨rfl, rfl⟩) fun obj t ht => ?_
  obtain ⟨rfl, rfl⟩ := ht
  have hS : (s.heap.push { cls := .type "list", data := .seq #[] }).get? s.heap.objs.size = some { cls := .type "list", data := .seq #[] } := Heap.get?_push_size _ rfl
  obtain ⟨oi, hoi, ri⟩ := hit
  obtain ⟨ol, hol, rl⟩ := hl
  refine ⟨⟨_, hS, rfl⟩, F.args_list_init_2 _ _, initRev (its := its) (A := A.in1) calm _ hS ⟨oi, Heap.get?_push_of_some _ hoi, ri⟩ ⟨ol, Heap.get?_push_of_some _ hol, rl⟩ hne (Nat.ne_of_gt (Heap.lt_size hoi)) (Nat.ne_of_gt (Heap.lt_size hol)) hn fun h' tk acc c hk hS' hacc => ?_⟩
  exact ⟨rfl, fin h' tk acc c (fun b o hb e => hk b o hb (Nat.ne_of_lt (Heap.lt_size e)) (Heap.get?_push_of_some _ e)) hS' hacc⟩
end
section
variable {X : Cx}
def tLstRev (K : PySem.W.Frag) (te : TE) : TE := fun σ H Q => te σ H fun v H1 => ∃ (a : Addr) (xs : List V), v = .ref a ∧ SqL K H1 a xs ∧ ∀ q, H1 q = none → Q (.ref q) (upd H1 q (.lst xs.reverse))
theorem pe_listRev {e : Expr} {te : TE} {p p2 pos pos2 : Pos} (hc : X.calm = true) (hg : Gl X "list") (hm : X.mg "list" = none) (hg2 : Gl X "reversed") (hm2 : X.mg "reversed" = none) (he : PE X e te)
    (hs : starEach [e] X.env = (false, eval e X.env) :: starEach [] X.env := by rfl)
    (hs2 : starEach [.Call (.Name "reversed" p2) [e] [] pos2] X.env = (false, eval (.Call (.Name "reversed" p2) [e] [] pos2) X.env) :: starEach [] X.env := by rfl) :
    PE X (.Call (.Name "list" p) [.Call (.Name "reversed" p2) [e] [] pos2] [] pos) (tLstRev X.K te) := by
  refine ⟨fun pins s σ H Q I h => ?_⟩
  refine Call_ (ld_blt I hg hm boot_list (PyProof.Rows.callWith_type1 (args_cons (Call_ (ld_blt I hg2 hm2 PyProof.Rows.boot_reversed (PyProof.Rows.callWith_type1 (args_cons (thn (he.run pins s σ H _ I h) fun u s1 ⟨v, H1, I1, r1, q1⟩ => args_nil ?_) hs) hs rfl))) hs2) hs2 rfl))
  obtain ⟨a, xs, ev, hq, q⟩ := q1
  subst ev
  obtain rfl : u = Value.ref a := r1
  obtain ⟨its, rv, pl, hz⟩ := I1.list hq
  refine call_reversed_list pl.isList (args_nil ?_)
  have I2 : Inv X pins σ H1 { s1 with heap := s1.heap.push (revObj a ((its.toArray.size : Int) - 1)) } := I1.kept (t' := s1.toks) fun b o e => Heap.get?_push_of_some _ e
  obtain ⟨f0, f1, f2, f3, f4, f5⟩ := I1.fpOk (H' := H1) (b := s1.heap.objs.size) (Nat.le_refl _) (I1.hok.fresh (Nat.le_refl _))
  have hl := pl.isList
  obtain ⟨ol, hol, _⟩ := id hl
  have hn : its.toArray.size ≤ sizeLine := by rw [List.size_toArray, ← rv.length]; exact hz
  refine listRev (s := { s1 with heap := s1.heap.push (revObj a ((its.toArray.size : Int) - 1)) }) (I1.ok.hd hc) ⟨_, Heap.get?_push_size _ rfl, rfl, rfl⟩ (hl.push _) (Nat.ne_of_lt (Heap.lt_size hol)) hn fun h' tk acc c hk hS hi => ?_
  have hfr : H1 (s1.heap.push (revObj a ((its.toArray.size : Int) - 1))).objs.size = none := I2.hok.fresh (Nat.le_refl _)
  have J := I2.step (H' := upd H1 (s1.heap.push (revObj a ((its.toArray.size : Int) - 1))).objs.size (.lst xs.reverse)) (h' := h') (g' := s1.gens) (d' := s1.drawn) (t' := tk) (ch := [s1.heap.objs.size])
    (fun b hb => by rw [List.mem_singleton.mp hb]; exact ⟨f3, f1, f4, f5⟩)
    (fun b o _ _ hc e _ => hk b o (fun z => hc (by rw [z]; exact List.mem_singleton.mpr rfl)) e)
    (fun b o _ _ hc e _ => ⟨o.slots, hk b o (fun z => hc (by rw [z]; exact List.mem_singleton.mpr rfl)) e⟩)
    (fun b o _ e n => by rw [upd_ne (Nat.ne_of_lt (Heap.lt_size e))]; exact n)
    (fun b o hc e => ⟨o, hk b o (fun z => hc (by rw [z]; exact List.mem_singleton.mpr rfl)) e⟩)
    (fun b ys e => by rw [upd_ne (ne_of_none e hfr)]; exact e) (fun b o ys e => by rw [upd_ne (ne_of_none e hfr)]; exact e) (fun b ps e => ⟨#[], by rw [upd_ne (ne_of_none e hfr), e]; simp⟩)
    (fun m hm => by
      obtain ⟨o, es, ep, ho, r⟩ := hm
      exact ⟨o, es, ep, hk _ o (Ne.symm f1) ho, r⟩)
    (fun b u e => by
      by_cases hb : b = (s1.heap.push (revObj a ((its.toArray.size : Int) - 1))).objs.size
      · rw [hb, upd_same] at e
        cases e
        rw [hb]
        exact ⟨by rw [List.length_reverse]; exact hz, acc.toList, c, RT.vals_rev rv hi, by rw [Array.toArray_toList]; exact hS⟩
      · rw [upd_ne hb] at e
        refine (I2.hok b u e).stay (fun d v hd q => hk d v ?_ q) (fun d q => by rw [upd_ne (ne_of_none q hfr)]; exact q) fun d ys q => by rw [upd_ne (ne_of_none q hfr)]; exact q
        rcases hd with rfl | hd
        · exact fun z => by rw [z, f0] at e; cases e
        · exact fun z => by rw [z, f0] at hd; cases hd) I2.bare
  exact ⟨.ref _, _, J, rfl, q _ hfr⟩
end
end FF
namespace FF
open PySem PySem.Spec PyProof.Rows L2
variable [LT]
/-! ### len(set(xs)), sorted(set(xs)) of ints -/
def nub (ns : List Int) : List Int := ns.foldl step_dedup []
theorem met_nub (ns : List Int) : firstMet (fun i => ns.getD i 0) ns.length = nub ns := by
  unfold firstMet nub
  have e : (List.range ns.length).map (fun i => ns.getD i 0) = ns := by
    apply List.ext_getElem
    · simp
    · intro i h1 h2
      simp [List.getElem?_eq_getElem h2]
  rw [e]
theorem nub_length (ns : List Int) : (nub ns).length ≤ ns.length := by
  rw [← met_nub]
  exact firstMet_length_le _ _
section
variable {X : Cx}
def tLenSetL (K : PySem.W.Frag) (ta : TE) : TE := fun σ H Q => ta σ H fun x H1 => ∃ (l : Addr) (ns : List Int), x = V.ref l ∧ SqL K H1 l (ns.map V.int) ∧ ns.length ≤ 1000 ∧ Q (.int (nub ns).length) H1
theorem pe_lenSetL {a : Expr} {ta : TE} {p p2 q pos : Pos} (hg : Gl X "len") (hm : X.mg "len" = none) (hg2 : Gl X "set") (hm2 : X.mg "set" = none) (ha : PE X a ta) (hc : X.calm = true := by rfl)
    (na : starEach [a] X.env = (false, eval a X.env) :: starEach [] X.env := by rfl) : PE X (.Call (.Name "len" p) [.Call (.Name "set" p2) [a] [] q] [] pos) (tLenSetL X.K ta) := by
  refine ⟨fun pins s σ H Q I h => Call_ (ld_blt I hg hm boot_len (PyProof.Rows.callWith_builtin1 (PyProof.Rows.args_cons (Call_ (ld_blt I hg2 hm2 boot_set ?_)) rfl) rfl rfl))⟩
  refine PyProof.Rows.callWith_type1 (PyProof.Rows.args_cons (thn (ha.run pins s σ H _ I h) fun v t ⟨x, G, J, rx, qx⟩ => PyProof.Rows.args_nil ?_) na) na rfl
  obtain ⟨l, ns, rfl, hq, hl, qx⟩ := qx
  cases rx
  obtain ⟨its, r, pl, hz⟩ := J.list hq
  have hlen : its.toArray.size = ns.length := by rw [List.size_toArray, ← r.length, List.length_map]
  refine call_set_list (J.ok.hd hc) pl.isList (by simpa using RZ.intsAre_vals r) (by rw [hlen]; unfold scanBound; omega) fun h' tk hS hk => PyProof.Rows.args_nil ?_
  rw [hlen, met_nub] at hS
  obtain ⟨o, es, ep, tb, ho, hex, hd, _, _, _, hf, hn⟩ := hS
  have J2 : Inv X pins σ G { t with heap := h', toks := tk } := J.kept fun b o e => hk b o (Heap.lt_size e) e
  have hnub := nub_length ns
  exact call_len_set ho hex hd hf (by rw [hn]; omega) ⟨.int (nub ns).length, G, J2.tok _, ⟨_, by rw [hn]⟩, qx⟩
end
section
variable {P : Program} {w : World} {A : Around} {E : Value → Shared → Prop} {s : Shared}
end
section
variable {X : Cx}
end
end FF
namespace FF
open PySem PySem.Spec PyProof.Rows L2
variable [LT]
/-! ### generator expressions: a turn, the frame, the protocol -/
section
variable {α : Type}
/-- what a generator expression is made of: its syntax, its frame's context, its iterator, the consumer's objects and what they hold -/
structure GxD (α : Type) where
  Z : Cx
  elt : Expr
  tg : Expr
  iter : Expr
  ifs : List Expr
  scope : Scope
  pos : Pos
  it : Addr
  fp : List Addr
  tn : Nat → Heap → Prop
  J : It
  prot : List Addr
  Acc : α → Heap → Prop
  W : Nat → Nat → α → Hp → Prop
  Yl : α → V → Hp → (α → Hp → Prop) → Prop
  Dn : α → Hp → Prop
  σ0 : L2.St
  vs : List Nat
abbrev GxD.expr (D : GxD α) : Expr := .GeneratorExp D.elt [⟨D.tg, D.iter, D.ifs, 0⟩] D.scope D.pos
abbrev GxD.loop (D : GxD α) : Code := .compLoop D.expr 0 (.ref D.it) .none D.Z.env
abbrev GxD.begin (D : GxD α) : Code := .compStart D.expr 0 (.ref D.it) .none D.Z.env
/-- the frame's invariant, the consumer's objects pinned as they stand -/
def GxD.Inv (D : GxD α) (pins : List (Addr × Obj)) (H : Hp) (s : Shared) : Prop :=
  pins.map (·.1) = D.prot ∧ L2.Inv D.Z pins D.σ0 H s ∧ ∀ b ∈ D.fp, FpOk D.Z pins H b
def GxD.Y (D : GxD α) : Protocol := fun _ s₀ v s kap => ∃ (i : Nat) (a : α) (pins : List (Addr × Obj)) (H : Hp) (x : V) (Nx : α → Hp → Prop),
  RelV x v ∧ s₀.gens.size ≤ s.gens.size ∧ D.Acc a s₀.heap ∧ (∀ p ∈ pins, s₀.heap.get? p.1 = some p.2) ∧ D.Inv pins H s ∧ D.tn (i + 1) s.heap ∧ D.Yl a x H Nx ∧
  ∀ (s' : Shared) (pins' : List (Addr × Obj)) (H' : Hp) (a' : α), D.Inv pins' H' s' → D.tn (i + 1) s'.heap → D.Acc a' s'.heap → Nx a' H' → kap (.send .none) s'
def GxD.P (D : GxD α) : Nat → Shared → Shared → Prop := fun _ s₀ s => ∃ (a : α) (pins : List (Addr × Obj)) (H : Hp),
  D.Acc a s₀.heap ∧ (∀ p ∈ pins, s₀.heap.get? p.1 = some p.2) ∧ D.Inv pins H s ∧ D.Dn a H
abbrev GxD.R (D : GxD α) : GenEnd := fun n s₀ r s => r = .ok .next ∧ D.P n s₀ s
/-- the syntax keeps to its rules; what a turn does -/
structure GxD.Ok (D : GxD α) (g : TG) (tt : TT) (te : TE) : Prop where
  calm : D.Z.calm = true
  xe : D.Z.xe = fun _ _ => False
  co : D.Z.env.scope.isCoroutine = false
  turn : Turn D.Z.prog D.Z.w D.Z.K D.tg D.J D.fp D.it D.tn
  pg : PG D.Z D.tg g
  pt : PTs D.Z D.ifs tt
  pe : PE D.Z D.elt te
  step : ∀ i m a H, D.W i m a H → (D.J.stop i H ∧ D.Dn a H) ∨ (D.J.go i H ∧ ∃ Nx : α → Hp → Prop, (∀ a' H', Nx a' H' → ∃ m', m' < m ∧ D.W (i + 1) m' a' H') ∧
    ∀ x H1, D.J.yld i H x H1 → g x D.σ0 H1 fun σ2 H2 => wipe σ2 D.vs = D.σ0 ∧ tt σ2 H2 fun b H3 => if b = true then te σ2 H3 fun y H4 => D.Yl a y H4 Nx else Nx a H3)
theorem gx_seg {D : GxD α} {g : TG} {tt : TT} {te : TE} (ok : D.Ok g tt te) {A : Around} (hA : A.over D.loop [] = D.Z.A) :
    ∀ (m i n : Nat) (s₀ s : Shared) (pins : List (Addr × Obj)) (H : Hp) (a : α), m < n → s₀.gens.size ≤ s.gens.size → D.Inv pins H s → D.tn i s.heap → D.Acc a s₀.heap → (∀ p ∈ pins, s₀.heap.get? p.1 = some p.2) → D.W i m a H →
      Seg (model D.Z.prog D.Z.w) A D.R D.Y n s₀ D.loop ((model D.Z.prog D.Z.w).den D.loop) [] s := by
  intro m
  induction m using Nat.strongRecOn with
  | _ m ih =>
    intro i n s₀ s pins H a hmn hz GI ht hacc hp0 hw
    obtain ⟨hpr, I, hf⟩ := GI
    have T := ok.turn
    show Seg _ A _ _ _ s₀ _ ((compTurn D.expr 0 (.ref D.it) .none D.Z.env).onRaise (leaving D.Z.env)) [] s
    rw [compTurn_gen, Sem.onRaise_eq_wrap]
    refine seg_bind_wrap (wpAny_standAt ?_)
    rcases ok.step i m a H hw with ⟨stop, dn⟩ | ⟨go, Nx, hNx, st⟩
    · refine seg_bind_wrap ?_
      rw [hA]
      refine thnF (T.done D.Z rfl rfl rfl ok.calm i pins s D.σ0 H (fun _ _ => False) I hf ht stop) fun r t ⟨hr, J⟩ => ?_
      subst hr
      exact seg_end (.ok .next) ⟨rfl, a, pins, H, hacc, hp0, ⟨hpr, J, hf⟩, dn⟩
    · refine seg_bind_wrap ?_
      rw [hA]
      refine GenW.wpAny_gsz hz (thnF (T.item D.Z rfl rfl rfl ok.calm i pins s D.σ0 H (fun _ _ => False) I hf ht go) fun r t ⟨u, hr, h1⟩ z0 => ?_)
      subst hr
      refine seg_bind_wrap ?_
      rw [hA]
      refine GenW.wpAny_gsz z0 (thnF h1 fun _ t1 ⟨x, H1, I1, r1, y1, tn1, n1⟩ z1 => ?_)
      have f1 : ∀ b ∈ D.fp, FpOk D.Z pins H1 b := fun b hb => ⟨n1 b hb, (hf b hb).2⟩
      have I1p := I1.pinned f1 (T.obj _ _ tn1)
      have hpg := ok.pg.run _ t1 D.σ0 H1 x u _ I1p r1 (st x H1 y1)
      rw [ok.xe] at hpg
      refine seg_bind_wrap ?_
      rw [hA]
      refine GenW.wpAny_gsz z1 (thnF hpg fun _ t2 ⟨σ2, H2, I2, w2, q2⟩ z2 => ?_)
      have hpt := ok.pt.run _ t2 σ2 H2 _ I2 q2
      rw [ok.xe] at hpt
      refine seg_bind_wrap ?_
      rw [hA]
      refine GenW.wpAny_gsz z2 (thnF hpt fun b t3 ⟨H3, I3, q3⟩ z3 => ?_)
      -- what holds at the turn's end
      have fin : ∀ {t' : Shared} {H' : Hp}, L2.Inv D.Z (pins ++ pinsAt D.fp t1.heap) σ2 H' t' → D.Inv pins H' t' ∧ D.tn (i + 1) t'.heap := fun {t' H'} J => by
        have pin' : ∀ b ∈ D.fp, ∀ o, t1.heap.get? b = some o → t'.heap.get? b = some o ∧ H' b = none := fun b hb o e =>
          let z := J.pin (b, o) (List.mem_append_right _ (List.mem_append_right _ (mem_pinsAt hb e)))
          ⟨z.1, z.2.1⟩
        have hl : D.σ0.length = σ2.length := by rw [← w2, wipe_length]
        refine ⟨⟨hpr, J.unpinned.weak hl (fun j v e => by rw [← w2] at e; exact (wipe_some e).1), fun b hb => ?_⟩, T.keep _ _ _ tn1 fun b hb o e => (pin' b hb o e).1⟩
        obtain ⟨o, e, _⟩ := T.obj _ _ tn1 b hb
        exact ⟨(pin' b hb o e).2, (hf b hb).2⟩
      cases b with
      | false =>
        simp only [Bool.false_eq_true, if_false] at q3 ⊢
        obtain ⟨m', hm', w'⟩ := hNx a H3 q3
        obtain ⟨G3, tn3⟩ := fin I3
        exact seg_again rfl (ih m' hm' (i + 1) n s₀ t3 pins H3 a (by omega) z3 G3 tn3 hacc hp0 w')
      | true =>
        simp only [if_true] at q3 ⊢
        have hy : ∀ v, yieldOut D.Z.env v = yieldValue v := fun v => by simp only [yieldOut, ok.co, Bool.false_eq_true, if_false]
        simp only [hy]
        rw [Sem.bind_eq_wrap', Sem.bind_eq_wrap', Sem.wrap_wrap, Sem.wrap_wrap]
        have hpe := ok.pe.run _ t3 σ2 H3 _ I3 q3
        rw [ok.xe] at hpe
        refine seg_wrap ?_
        rw [hA]
        refine GenW.wpAny_gsz z3 (thnF hpe fun y t4 ⟨z, H4, I4, r4, q4⟩ z4 => ?_)
        obtain ⟨n', rfl⟩ : ∃ n', n = n' + 1 := ⟨n - 1, by omega⟩
        obtain ⟨G4, tn4⟩ := fin I4
        refine seg_at (seg_yield rfl rfl rfl ⟨i, a, pins, H4, z, Nx, r4, z4, hacc, hp0, G4, tn4, q4, fun t' pins' H' a' G' tn' hacc' nx => ?_⟩)
        obtain ⟨m', hm', w'⟩ := hNx a' H' nx
        exact seg_again rfl (ih m' hm' (i + 1) n' t' t' pins' H' a' (by omega) (Nat.le_refl _) G' tn' hacc' (fun p hp => (G'.2.1.pin p (List.mem_append_right _ hp)).1) w')
theorem gx_begin {D : GxD α} {g : TG} {tt : TT} {te : TE} (ok : D.Ok g tt te) {A : Around} (hA : A.over D.loop [] = D.Z.A) {m n : Nat} {s : Shared} {pins : List (Addr × Obj)} {H : Hp} {a : α}
    (hmn : m < n) (G : D.Inv pins H s) (ht : D.tn 0 s.heap) (hacc : D.Acc a s.heap) (hw : D.W 0 m a H) :
    Seg (model D.Z.prog D.Z.w) A D.R D.Y n s D.begin ((model D.Z.prog D.Z.w).den D.begin) [] s := by
  have loop := gx_seg ok hA m 0 n s s pins H a hmn (Nat.le_refl _) G ht hacc (fun p hp => (G.2.1.pin p (List.mem_append_right _ hp)).1) hw
  show Seg _ A _ _ _ s _ ((compStart D.expr 0 (.ref D.it) .none D.Z.env).onRaise (leaving D.Z.env)) [] s
  unfold compStart
  rw [Sem.onRaise_eq_wrap]
  show Seg _ A _ _ _ s _ ((ask >>= _).wrap _ _ _ _) [] s
  refine seg_bind_wrap (wpAny_askSetting ?_)
  split
  · exact seg_again rfl loop
  · first
      | exact seg_bind_wrap (wpAny_rule (seg_bind_wrap (wpAny_standAt (seg_bind_wrap (ok.turn.self _ 0 s _ _ ht (seg_again rfl loop))))))
      | (refine seg_bind_wrap (wpAny_rule ?_); show Seg _ A _ _ _ s _ ((standAt D.iter.pos >>= _).wrap _ _ _ _) [] s; exact seg_bind_wrap (wpAny_standAt (seg_bind_wrap (ok.turn.self _ 0 s _ _ ht (seg_again rfl loop)))))
end
end FF
namespace FF
open PySem PySem.Spec PyProof.Rows L2
variable [LT]
/-! ### generator expressions: the consumer's side -/
section
variable {α : Type}
theorem Inv.gens {X : Cx} {pins : List (Addr × Obj)} {σ : L2.St} {H : Hp} {s : Shared} (I : L2.Inv X pins σ H s) {G : Array GenState} (hG : AllBare G) : L2.Inv X pins σ H { s with gens := G } :=
  ⟨I.ok, I.os, hG, I.base, I.loc, I.cell, I.free, I.freeC, I.pin, I.hok, I.len⟩
theorem bare_set {G : Array GenState} {g : Nat} {x : GenState} (h : AllBare G) (hx : x.bare = true) : AllBare (G.setIfInBounds g x) := fun y hy => by
  obtain ⟨i, hi, rfl⟩ := Array.mem_iff_getElem.mp hy
  rw [Array.getElem_setIfInBounds (by simpa using hi)]
  split
  · exact hx
  · exact h _ (Array.getElem_mem _)
theorem GxD.Inv.setGen {D : GxD α} {pins : List (Addr × Obj)} {H : Hp} {s : Shared} (G : D.Inv pins H s) {g : Nat} {x : GenState} (hx : x.bare = true) : D.Inv pins H (s.setGen g x) :=
  ⟨G.1, Inv.gens G.2.1 (bare_set G.2.1.bare hx), G.2.2⟩
/-- the generator g at ga sleeps; n: more than it will hand out; a: what the consumer has -/
structure GxD.Live (D : GxD α) (A : Around) (ga : Addr) (g n : Nat) (a : α) (s : Shared) : Prop where
  mem : ga ∈ D.prot
  isg : s.heap.IsGen ga g
  acc : D.Acc a s.heap
  inv : ∃ pins H, D.Inv pins H s
  go : ∃ gs, s.gens[g]? = some gs ∧ gs.Goes (model D.Z.prog D.Z.w) A.in1 D.R D.Y n (.send .none) (s.setGen g .running)
/-- it has handed out x, the heap is H; where the consumer comes to Nx it lives on -/
structure GxD.Told (D : GxD α) (A : Around) (ga : Addr) (g n : Nat) (a : α) (x : V) (H : Hp) (Nx : α → Hp → Prop) (s : Shared) : Prop where
  inv : ∃ pins, D.Inv pins H s
  acc : D.Acc a s.heap
  yl : D.Yl a x H Nx
  isg : s.heap.IsGen ga g
  on : ∃ i, D.tn (i + 1) s.heap ∧ ∀ (s' : Shared) (pins' : List (Addr × Obj)) (H' : Hp) (a' : α), s'.gens = s.gens → s'.heap.IsGen ga g → D.Inv pins' H' s' → D.tn (i + 1) s'.heap → D.Acc a' s'.heap → Nx a' H' → ∃ n', n = n' + 1 ∧ D.Live A ga g n' a' s'
theorem pins_same {D : GxD α} {pins : List (Addr × Obj)} {H : Hp} {s s₀ : Shared} (G : D.Inv pins H s) (h0 : ∀ p ∈ pins, s₀.heap.get? p.1 = some p.2) {b : Addr} (hb : b ∈ D.prot) : s.heap.get? b = s₀.heap.get? b := by
  rw [← G.1] at hb
  obtain ⟨p, hp, e⟩ := List.mem_map.mp hb
  rw [← e, (G.2.1.pin p (List.mem_append_right _ hp)).1, h0 p hp]
theorem gx_next {D : GxD α} {A : Around} {ga : Addr} {g n : Nat} {a : α} {s : Shared} {Q : Option Value → Shared → Prop} {E : Value → Shared → Prop} (calm : A.handled = none) (room : A.depth < recursionLimit)
    (hfun : ∀ a a' h, D.Acc a h → D.Acc a' h → a = a') (hpr : ∀ a h h', (∀ b ∈ D.prot, h'.get? b = h.get? b) → D.Acc a h → D.Acc a h') (L : D.Live A ga g n a s)
    (some_ : ∀ v x H Nx t, RelV x v → D.Told A ga g n a x H Nx t → Q (some v) t)
    (none_ : ∀ pins H t, D.Inv pins H t → D.Dn a H → Q none t) :
    wpAny (model D.Z.prog D.Z.w) A (pyNext (.ref ga)) Q E s := by
  obtain ⟨pins0, H0, G0⟩ := L.inv
  obtain ⟨gs, hgs, hgo⟩ := L.go
  refine wpAny_pyNext_genexpQ (P := D.P) (Y := D.Y) (n := n) calm G0.2.1.nolimit room L.isg hgs hgo (fun v t gs' hb hv => ?_) (fun t hp h' hk => ?_)
  · obtain ⟨i, a1, pins, H, x, Nx, rx, hz, hacc, h0, G, htn, hyl, kap⟩ := hv
    have ea : a1 = a := hfun _ _ _ hacc L.acc
    subst ea
    have same : ∀ b ∈ D.prot, t.heap.get? b = s.heap.get? b := fun b hb' => pins_same G h0 hb'
    have isg : t.heap.IsGen ga g := by
      obtain ⟨o, nm, qn, ho, r⟩ := L.isg
      exact ⟨o, nm, qn, (same ga L.mem).trans ho, r⟩
    refine some_ v x H Nx _ rx ⟨⟨pins, G.setGen hb⟩, hpr _ _ _ same hacc, hyl, isg, i, htn, fun s' pins' H' a' hge isg' G' htn' hacc' nx => ?_⟩
    have kp := kap (s'.setGen g .running) pins' H' a' (G'.setGen rfl) htn' hacc' nx
    cases n with
    | zero => exact kp.elim
    | succ n' =>
    refine ⟨n', rfl, L.mem, isg', hacc', ⟨_, _, G'⟩, gs', ?_, kp⟩
    rw [hge]
    · have hlt : g < t.gens.size := by
        have h1 : g < s.gens.size := (Array.getElem?_eq_some_iff.mp hgs).1
        have h2 : (s.setGen g .running).gens.size = s.gens.size := by simp [Shared.setGen]
        omega
      simp [Shared.setGen, hlt]
  · obtain ⟨a1, pins, H, hacc, h0, G, hdn⟩ := hp
    have ea : a1 = a := hfun _ _ _ hacc L.acc
    subst ea
    exact none_ pins H _ ⟨G.1, Inv.gens (G := (t.setGen g .finished).gens) (G.2.1.kept (t' := t.toks) hk) (bare_set G.2.1.bare rfl), G.2.2⟩ hdn
theorem GxD.Told.stay {D : GxD α} {A : Around} {ga : Addr} {g n : Nat} {a a' : α} {x : V} {H : Hp} {Nx : α → Hp → Prop} {s : Shared} (T : D.Told A ga g n a x H Nx s) (tk : Nat) (nx : Nx a' H) (ha : D.Acc a' s.heap) :
    ∃ n', n = n' + 1 ∧ D.Live A ga g n' a' { s with toks := tk } := by
  obtain ⟨pins, G⟩ := T.inv
  obtain ⟨i, ht, on⟩ := T.on
  exact on { s with toks := tk } pins H a' rfl T.isg ⟨G.1, G.2.1.tok tk, G.2.2⟩ ht ha nx
/-- any(..), all(..): where k is not yet, the next; where it is, the end -/
def ylAll (stop : Bool) (Fl : Hp → Prop) : Unit → V → Hp → (Unit → Hp → Prop) → Prop := fun _ x H Nx => ∃ k, x = .bl k ∧ if k = stop then Fl H else Nx () H
theorem unit_fun {D : GxD Unit} : ∀ a a' h, D.Acc a h → D.Acc a' h → a = a' := fun _ _ _ _ _ => rfl
theorem all_loop {D : GxD Unit} {A : Around} {ga : Addr} {g : Nat} {R : Result → Shared → Prop} {Fl : Hp → Prop} (calm : A.handled = none) (room : A.depth < recursionLimit) (hyl : D.Yl = ylAll false Fl) (hac : D.Acc = fun _ _ => True)
    (yes : ∀ pins H t, D.Inv pins H t → D.Dn () H → R (.ok (.ret (.bool true))) t) (no : ∀ pins H t, D.Inv pins H t → Fl H → R (.ok (.ret (.bool false))) t) :
    ∀ n s, D.Live A.in1 ga g n () s → codeAny (model D.Z.prog D.Z.w) A (.builtin "all.loop" ⟨[.ref ga], []⟩) R s := by
  intro n
  induction n using Nat.strongRecOn with
  | _ n ih =>
    intro s L
    refine codeAny_builtin F.entry_all_loop ?_
    rw [Around.under_plainId F.plain_all_loop _]
    show wpAny _ A.in1 (pyNext (.ref ga) >>= _) _ _ s
    refine wpAny_bind (gx_next (A := A.in1) calm room unit_fun (fun _ _ _ _ _ => by rw [hac]; trivial) L (fun v x H Nx t rx T => ?_) (fun pins H t G dn => ?_))
    · have yl := T.yl
      rw [hyl] at yl
      obtain ⟨k, rfl, q⟩ := yl
      obtain rfl : v = .bool k := rx
      refine wpAny_bind (wpAny_holding (wpAny_truthy_bool (wpAny_bind (wpAny_letGo ?_))))
      cases k with
      | true =>
        simp only [Bool.true_eq_false, if_false] at q
        simp only [if_true]
        obtain ⟨n', rfl, L'⟩ := T.stay (a' := ()) t.toks q (by rw [hac]; trivial)
        exact wpAny_pure ⟨plainId_quiet F.plain_all_loop _, ih n' (Nat.lt_succ_self _) t L'⟩
      | false =>
        simp only [if_true] at q
        simp only [Bool.false_eq_true, if_false]
        obtain ⟨pins, G⟩ := T.inv
        exact wpAny_bind (wpAny_rule (wpAny_pure (no pins H t G q)))
    · exact wpAny_bind (wpAny_rule (wpAny_pure (yes pins H t G dn)))
/-- the consumer's own object at S is written anew -/
structure GxD.Own (D : GxD α) (ga S : Addr) : Prop where
  prot : D.prot = [ga, S]
  ne : S ≠ ga
  young : D.Z.s_0.heap.objs.size ≤ S
  loc : S ≠ D.Z.env.locals
  cel : ∀ x c, D.Z.env.cells.lookup x = some c → c ≠ S
  pn : D.Z.pn = []
theorem GxD.Told.write {D : GxD α} {A : Around} {ga S : Addr} {g n : Nat} {a a' : α} {x : V} {H : Hp} {Nx : α → Hp → Prop} {s : Shared} (T : D.Told A ga g n a x H Nx s) (hT : ∀ i h h', D.tn i h → (∀ b ∈ D.fp, ∀ o, h.get? b = some o → h'.get? b = some o) → D.tn i h')
    (ow : D.Own ga S) {h' : Heap} {o : Obj} (tk : Nat) (hk : ∀ b u, b ≠ S → s.heap.get? b = some u → h'.get? b = some u) (hS : h'.get? S = some o) (hcell : ∀ v, o.data ≠ .cell v) (nx : Nx a' H) (ha : D.Acc a' h') :
    ∃ n', n = n' + 1 ∧ D.Live A ga g n' a' { s with heap := h', toks := tk } := by
  obtain ⟨pins, hpr, I, hf⟩ := T.inv
  obtain ⟨i, ht, on⟩ := T.on
  obtain ⟨hgp, hSp⟩ : ga ∈ D.prot ∧ S ∈ D.prot := by rw [ow.prot]; simp
  have pinOf : ∀ b ∈ D.prot, ∃ p ∈ pins, p.1 = b := fun b hb => by
    rw [← hpr] at hb
    obtain ⟨p, hp, e⟩ := List.mem_map.mp hb
    exact ⟨p, hp, e⟩
  obtain ⟨pg, hpg, epg⟩ := pinOf ga hgp
  obtain ⟨pS, hpS, epS⟩ := pinOf S hSp
  have nfp : ∀ b ∈ D.fp, b ≠ S := fun b hb z => by
    have := (hf b hb).2.2.2.2.2 pS (List.mem_append_right _ hpS)
    rw [epS] at this
    exact this z.symm
  obtain ⟨gE, gN, gL, gF, gC⟩ := I.pin pg (List.mem_append_right _ hpg)
  obtain ⟨sE, sN, sL, sF, sC⟩ := I.pin pS (List.mem_append_right _ hpS)
  rw [epg] at gE gN gL gF
  rw [epS] at sE sN sL sF
  have I0 : L2.Inv D.Z [] D.σ0 H s := I.pins_of fun p hp => nomatch hp
  have nt : ∀ b u, H b = some u → b ≠ S := fun b u e z => by rw [z, sN] at e; cases e
  have J0 : L2.Inv D.Z [] D.σ0 H { s with heap := h', toks := tk } := by
    refine I0.step (h' := h') (g' := s.gens) (d' := s.drawn) (t' := tk) (ch := [S]) (fun b hb => ?_) (fun b u _ _ hc e _ => hk b u (fun z => hc (by rw [z]; exact List.mem_singleton.mpr rfl)) e)
      (fun b u _ _ hc e _ => ⟨u.slots, hk b u (fun z => hc (by rw [z]; exact List.mem_singleton.mpr rfl)) e⟩) (fun _ _ _ _ e => e) (fun b u hc e => ⟨u, hk b u (fun z => hc (by rw [z]; exact List.mem_singleton.mpr rfl)) e⟩)
      (fun _ _ e => e) (fun _ _ _ e => e) (fun b ps e => ⟨#[], by rw [e]; simp⟩) (fun m hm => ?_) (fun b u e => ?_) I0.bare
    · rw [List.mem_singleton.mp hb]
      refine ⟨.inr ow.young, ow.loc, ow.cel, fun p hp => ?_⟩
      rw [ow.pn] at hp
      exact nomatch hp
    · obtain ⟨ob, es, ep, ho, r⟩ := hm
      exact ⟨ob, es, ep, hk _ ob (Ne.symm ow.loc) ho, r⟩
    · refine (I0.hok b u e).stay (fun c v hc q => hk c v ?_ q) (fun _ q => q) fun _ _ q => q
      rcases hc with rfl | hc
      · exact nt _ _ e
      · exact nt _ _ hc
  have gE' : h'.get? ga = some pg.2 := hk _ _ (Ne.symm ow.ne) gE
  have J : L2.Inv D.Z [(ga, pg.2), (S, o)] D.σ0 H { s with heap := h', toks := tk } := J0.pins_of fun p hp => by
    rcases List.mem_cons.mp hp with rfl | hp
    · exact ⟨gE', gN, gL, gF, gC⟩
    · rw [List.mem_singleton.mp hp]
      exact ⟨hS, sN, sL, sF, hcell⟩
  have isg : h'.IsGen ga g := by
    obtain ⟨ob, nm, qn, ho, r⟩ := T.isg
    exact ⟨ob, nm, qn, hk _ _ (Ne.symm ow.ne) ho, r⟩
  refine on { s with heap := h', toks := tk } _ H a' rfl isg ⟨by rw [ow.prot]; rfl, J, fun b hb => ?_⟩ (hT _ _ _ ht fun b hb u e => hk b u (nfp b hb) e) ha nx
  obtain ⟨f0, f1, f2, f3, f4, f5⟩ := hf b hb
  refine ⟨f0, f1, f2, f3, f4, fun p hp => ?_⟩
  rw [ow.pn] at hp
  rcases List.mem_cons.mp (show p ∈ [(ga, pg.2), (S, o)] from hp) with rfl | hp
  · have := f5 pg (List.mem_append_right _ hpg)
    rw [epg] at this
    exact this
  · rw [List.mem_singleton.mp hp]
    exact (nfp b hb).symm
end
end FF
namespace FF
open PySem PySem.Spec PyProof.Rows L2
variable [LT]
/-! ### generator expressions: made -/
/-- the context of a generator expression's frame -/
abbrev gcx (X : Cx) (A : Around) (N : List Str) (s : Shared) (H : Hp) (cenv : Env) (fp : List Addr) : Cx :=
  { X with A := A, N := N, s_0 := s, H_0 := H, env := cenv, outer := X.stack, stack := cenv :: X.stack, ex := fp, fn := fun _ => false, calm := true, pn := [], xe := fun _ _ => False }
/-- its names: own ones, and those that the def (names XN) has as cells; src tells where these stand there -/
structure GxS (XN : List Str) (xsc scope : Scope) (N : List Str) (src : List (Option Nat)) : Prop where
  kind : scope.kind = .function
  co : scope.isCoroutine = false
  cell : ∀ y ∈ scope.names, y.2 ≠ .cell
  dot : scope.names.lookup (".0" : Str) = some NameKind.local
  free : ∀ y ∈ scope.names, y.2 = .free → xsc.names.lookup y.1 = some .cell ∨ xsc.names.lookup y.1 = some .free
  len : src.length = N.length
  nd : N.Nodup
  cap : ∀ (i j : Nat), src[i]? = some (some j) → ∃ x, N[i]? = some x ∧ XN[j]? = some x ∧ scope.names.lookup x = some .free
def gxσ (src : List (Option Nat)) (σ : L2.St) : L2.St := src.map fun o => match o with
  | some j => (σ[j]?).getD none
  | none => none
/-- a table of code objects of generator expressions stands at P -/
def TabG (H : Hp) (P : Addr) : Prop := ∃ ps : Array Value, H P = some (.tbl ps) ∧ TriplesOk ps.toList ∧ LT.lam P = false
/-- H' is H but for the table at P, which may have grown -/
def Tabd (P : Addr) (H H' : Hp) : Prop := TabG H' P ∧ ∀ b, b ≠ P → H' b = H b
section
variable {X : Cx} {pins : List (Addr × Obj)} {σ : L2.St} {H : Hp} {s : Shared}
theorem gx_inv {scope : Scope} {N : List Str} {src : List (Option Nat)} {fp : List Addr} {A : Around} {code : Value} {h' : Heap} {itv : Value} {gs : GenState} {tk : Nat} {og : Obj} (S : GxS X.N X.env.scope scope N src) (I : L2.Inv X pins σ H s) (hfp : ∀ b ∈ fp, FpOk X pins H b ∧ b < s.heap.objs.size)
    (hA : A.handled = none) (hF : A.frames = some (genEnv scope (cloFrom X.env.cells scope.names []) s.heap.objs.size code builtinsNs X.env :: X.stack)) (hgs : gs.bare = true)
    (hn : h'.Ns s.heap.objs.size (fun y => if y = ".0" then some itv else none)) (hs : Heap.SameBut s.heap.objs.size (s.heap.push { cls := .type "frame", data := .dict #[] }) h') :
    L2.Inv (gcx X A N s H (genEnv scope (cloFrom X.env.cells scope.names []) s.heap.objs.size code builtinsNs X.env) fp) [] (gxσ src σ) H { s with gens := s.gens.push gs, toks := tk, heap := h'.push og } := by
  have hfree : ∀ y ∈ scope.names, y.2 = .free → ∃ c, X.env.cells.lookup y.1 = some c := fun y hy e => by
    rcases S.free y hy e with k | k
    · exact I.ok.has _ (.inl k)
    · exact I.ok.has _ (.inr k)
  have kp : ∀ b o, s.heap.get? b = some o → (h'.push og).get? b = some o := fun b o e => Heap.get?_push_of_some _ (hs.extBut b o (Nat.ne_of_lt (Heap.lt_size e)) (Heap.get?_push_of_some _ e))
  have cm : ∀ {y c}, (cloFrom X.env.cells scope.names []).lookup y = some c → X.env.cells.lookup y = some c ∧ c < s.heap.objs.size := fun {y c} e => by
    rcases cloFrom_mem (PySem.mem_of_lookup e) with z | ⟨h1, h2⟩
    · cases z
    · obtain ⟨c', hc⟩ := hfree _ h1 rfl
      rw [hc] at h2
      have h2 : c = c' := h2
      rw [h2]
      obtain ⟨v, z⟩ := I.cell _ _ hc
      exact ⟨hc, z.lt⟩
  have has : ∀ {y}, scope.names.lookup y = some .free → ∃ c, (cloFrom X.env.cells scope.names []).lookup y = some c := fun {y} hl => by
    obtain ⟨c, e⟩ := mem_lookup (cloFrom_has (cells := X.env.cells) (acc := []) (PySem.mem_of_lookup hl))
    exact ⟨c, e⟩
  have okZ : (gcx X A N s H (genEnv scope (cloFrom X.env.cells scope.names []) s.heap.objs.size code builtinsNs X.env) fp).Ok := by
    refine ⟨I.ok.mod, S.kind, I.ok.glob, rfl, Nat.le_refl _, fun y z c e1 e2 => I.ok.inj y z c (cm e1).1 (cm e2).1, fun y hy => ?_, fun y c z e => (Bool.false_ne_true z).elim, fun _ => hA, hF, .inr ⟨rfl, rfl⟩, fun b hb => ⟨Nat.ne_of_lt (hfp b hb).2, fun y c e => (hfp b hb).1.2.2.2.2.1 y c (cm e).1⟩, I.bs, Nat.le_trans I.ok.bsz I.sz, fun b o e hb => ?_, fun b hb z => ?_, I.stack, I.stkFree⟩
    · rcases hy with hy | hy
      · exact absurd rfl (S.cell _ (PySem.mem_of_lookup hy))
      · exact has hy
    · rcases (hfp b hb).1.2.2.2.1 with z | z
      · exact I.ok.noex b o e z
      · exact absurd (Nat.lt_of_lt_of_le (Heap.lt_size e) (Nat.le_trans I.ok.bsz z)) (Nat.lt_irrefl _)
    · rcases List.mem_cons.mp (I.stkSub b z) with z | z
      · exact (hfp b hb).1.2.1 z
      · exact (hfp b hb).1.2.2.1 z
  refine ⟨okZ, rfl, I.bare.push hgs, Un.kept kp, ⟨_, hn.push og, fun i y v e1 e2 e3 => ?_⟩, fun y c e => ?_, I.hok.fresh (Nat.le_refl _), fun y c e => I.freeC y c (cm e).1, fun p hp => absurd (show p ∈ ([] : List (Addr × Obj)) ++ [] from hp) (by simp), I.hok.kept kp, ?_⟩
  · -- the captured names
    unfold gxσ at e2
    rw [List.getElem?_map] at e2
    cases hsrc : src[i]? with
    | none => rw [hsrc] at e2; cases e2
    | some o =>
      rw [hsrc] at e2
      cases o with
      | none => exact absurd (show (some (none : Option V)) = some (some v) from e2) (by simp)
      | some j =>
        have e2 : some ((σ[j]?).getD none) = some (some v) := e2
        have e4 : σ[j]? = some (some v) := by
          cases hj : σ[j]? with
          | none => rw [hj] at e2; exact absurd (Option.some.inj e2) (by simp)
          | some w => rw [hj] at e2; exact congrArg some (Option.some.inj e2)
        obtain ⟨x, hx1, hx2, hx3⟩ := S.cap i j hsrc
        have exy : x = y := Option.some.inj (hx1.symm.trans e1)
        subst exy
        obtain ⟨m, hm, hl⟩ := I.loc
        have hsc := S.free _ (PySem.mem_of_lookup hx3) rfl
        have hvis : Vis X.env.scope x := hsc.elim (fun k => .inr (.inl k)) (fun k => .inr (.inr k))
        obtain ⟨u, ru, lk⟩ := hl j x v hx2 e4 hvis
        refine ⟨u, ru, .inr ⟨.inr hx3, ?_⟩⟩
        obtain ⟨c, hc⟩ := has hx3
        refine ⟨c, hc, ?_⟩
        rcases lk with ⟨k, _⟩ | ⟨_, c', e', z⟩
        · have k : X.env.scope.names.lookup x = some .local := k
          rcases hsc with q | q <;> rw [show X.env.scope.names.lookup x = _ from q] at k <;> cases k
        · have := (cm hc).1
          rw [e'] at this
          cases this
          exact z.keeps kp
  · obtain ⟨v, z⟩ := I.cell y c (cm e).1
    exact ⟨v, z.keeps kp⟩
  · show (gxσ src σ).length = N.length
    unfold gxσ
    rw [List.length_map]
    exact S.len
end
end FF
namespace FF
open PySem PySem.Spec PyProof.Rows L2
variable [LT]
/-! ### generator expressions: the rules -/
section
variable {X : Cx} {pins : List (Addr × Obj)} {σ : L2.St} {H : Hp} {s : Shared}
abbrev gEnv (X : Cx) (scope : Scope) (C : Addr) (code : Value) : Env := genEnv scope (cloFrom X.env.cells scope.names []) C code builtinsNs X.env
/-- a generator expression has been made, at ga: all that is known of it -/
structure Ready (X : Cx) (pins : List (Addr × Obj)) (σ : L2.St) (elt tg iter : Expr) (ifs : List Expr) (scope : Scope) (gpos : Pos) (N : List Str) (src : List (Option Nat)) (J : It) (G : Hp) (it : Addr) (fp : List Addr) (tn : Nat → Heap → Prop) (code : Value) (s4 t : Shared) (ga : Addr) (g : Nat) : Prop where
  i4 : L2.Inv X pins σ G s4
  fpX : ∀ b ∈ fp, FpOk X pins G b ∧ b < s4.heap.objs.size
  turn : Turn X.prog X.w X.K tg J fp it tn
  tn0 : tn 0 t.heap
  isg : t.heap.IsGen ga g
  gen : t.gens[g]? = some (.fresh (.compStart (.GeneratorExp elt [⟨tg, iter, ifs, 0⟩] scope gpos) 0 (.ref it) .none (gEnv X scope s4.heap.objs.size code)))
  inv : ∀ A : Around, A.handled = none → A.frames = some (gEnv X scope s4.heap.objs.size code :: X.stack) → L2.Inv (gcx X A N s4 G (gEnv X scope s4.heap.objs.size code) fp) [] (gxσ src σ) G t
  new : s4.heap.objs.size < ga
  lt : ga < t.heap.objs.size
theorem gx_make {c P : Addr} {elt tg iter : Expr} {ifs : List Expr} {scope : Scope} {gpos : Pos} {N : List Str} {src : List (Option Nat)} {wi : TI} {k : Nat} {Rr : It → Hp → Prop} {Q' : Value → Shared → Prop} (hr : Room k X.A) (TB : LamX.TabB X.base X.mg c P) (hcode : X.env.code = .ref c)
    (S : GxS X.N X.env.scope scope N src) (hi : PI X tg iter wi) (hs : ∀ v, genFold iter X.env v = pure v) (I : L2.Inv X pins σ H s) (h : wi σ H fun J H1 => TabG H1 P ∧ ∀ H2, Tabd P H1 H2 → Rr J H2)
    (fin : ∀ J G it fp tn code s4 t ga g, Rr J G → Ready X pins σ elt tg iter ifs scope gpos N src J G it fp tn code s4 t ga g → Q' (.ref ga) t) :
    wpAny (model X.prog X.w) X.A (eval (.GeneratorExp elt [⟨tg, iter, ifs, 0⟩] scope gpos) X.env) Q' X.xe s := by
  have hfree : ∀ y ∈ scope.names, y.2 = .free → ∃ c, X.env.cells.lookup y.1 = some c := fun y hy e => by
    rcases S.free y hy e with k | k
    · exact I.ok.has _ (.inl k)
    · exact I.ok.has _ (.inr k)
  refine wpAny_GeneratorExp_make S.co (closure_ok hfree) S.cell S.dot S.kind hr.depth (thn (hi.run pins s σ H _ I h) fun xv s1 hx => thn hx fun itv s2 h2 => ?_) hs
  obtain ⟨it, fp, tn, J, H2, e, I2, T, st2, f2, ⟨ps, hP, htr, hlm⟩, q⟩ := h2
  subst e
  have hPs : s2.heap.get? P = some { cls := .none, data := .fields ps } := I2.hok P _ hP
  have cd : PySem.W.CodeHd s2.heap c P := TB.code.keeps I2.bk
  have sz : ∀ b ∈ fp, b < s2.heap.objs.size := fun b hb => by
    obtain ⟨o, e, _⟩ := T.obj _ _ st2 b hb
    exact Heap.lt_size e
  have nP : ∀ b ∈ fp, b ≠ P := fun b hb z => by
    have := (f2 b hb).1
    rw [z, hP] at this
    cases this
  refine ⟨I2.nolimit, ?_⟩
  -- behind the code object's making: the table is ps ++ more
  have cont : ∀ (code : Value) (h3 : Heap) (tk : Nat) (more : Array Value), Heap.ExtBut P s2.heap h3 → h3.get? P = some { cls := .none, data := .fields (ps ++ more) } → TriplesOk (ps ++ more).toList →
      wpAny (model X.prog X.w) X.A (builtinsFor X.env.globals X.env.builtins) (fun bi s4 =>
        ∀ h', h'.Ns s4.heap.objs.size (fun y => if y = ".0" then some (.ref it) else none) → Heap.SameBut s4.heap.objs.size (s4.heap.push { cls := .type "frame", data := .dict #[] }) h' →
          Q' (.ref h'.objs.size) { s4 with
            gens := s4.gens.push (.fresh (.compStart (.GeneratorExp elt [⟨tg, iter, ifs, 0⟩] scope gpos) 0 (.ref it) .none (genEnv scope (cloFrom X.env.cells scope.names []) s4.heap.objs.size code bi X.env))),
            toks := s4.toks + 1 + 1 + 1,
            heap := h'.push { cls := .type "generator", data := .fields #[.int s4.gens.size 0, .str "<genexpr>" (s4.toks + 1), .str (X.env.qual ++ "<genexpr>") (s4.toks + 1 + 1)] } }) X.xe { s2 with heap := h3, toks := tk } := by
    intro code h3 tk more hx hm htr3
    obtain ⟨bm, ob, e1, e2, e3, e4, e5, e6, e7, e8⟩ := TB.bm
    have J4 : L2.Inv X pins σ (upd H2 P (.tbl (ps ++ more))) { s2 with heap := h3, gens := s2.gens, drawn := s2.drawn, toks := tk } := GxR.inv_tab (more := more) I2 hP (fun b o hb e => hx b o hb e) hm I2.bare
    have f4 : ∀ b ∈ fp, FpOk X pins (upd H2 P (.tbl (ps ++ more))) b ∧ b < h3.objs.size := fun b hb => by
      obtain ⟨o, e, _⟩ := T.obj _ _ st2 b hb
      exact ⟨⟨by rw [upd_ne (nP b hb)]; exact (f2 b hb).1, (f2 b hb).2⟩, Heap.lt_size (hx b o (nP b hb) e)⟩
    have tn3 : tn 0 h3 := T.keep _ _ _ st2 fun b hb o e => hx b o (nP b hb) e
    refine wpAny_builtinsFor (m := X.mg) (by rw [I2.ok.glob]; exact (I2.mod.glob.keeps I2.bk).extBut hx TB.gP) e1 e2 (hx _ _ e4 (I2.bk _ _ e5)) e6 e7 e8 ?_
    intro h' hn' hs'
    have hsz : h'.objs.size = h3.objs.size + 1 := by rw [hs'.1, Heap.size_push]
    have kp : ∀ b o, h3.get? b = some o → h'.get? b = some o := fun b o e => hs'.extBut b o (Nat.ne_of_lt (Heap.lt_size e)) (Heap.get?_push_of_some _ e)
    refine fin J (upd H2 P (.tbl (ps ++ more))) it fp tn code { s2 with heap := h3, toks := tk } _ _ s2.gens.size (q _ ⟨⟨ps ++ more, upd_same, htr3, hlm⟩, fun b hb => upd_ne hb⟩) ⟨J4, f4, T, T.keep _ _ _ tn3 fun b hb o e => Heap.get?_push_of_some _ (kp b o e), ⟨_, _, _, Heap.get?_push_size _ rfl, rfl, rfl, rfl⟩, Array.getElem?_push_size .., fun A hA hF => ?_, by show h3.objs.size < h'.objs.size; omega, by show h'.objs.size < (h'.push _).objs.size; rw [Heap.size_push]; exact Nat.lt_succ_self _⟩
    exact gx_inv (s := { s2 with heap := h3, toks := tk }) S J4 f4 hA hF rfl hn' hs'
  cases hf : codeAmong gpos ps.toList with
  | none =>
    refine wpAny_genexprCodeX hcode (cd.code hPs htr) (cd.tab hPs) hf fun c' h' tk hx hge hlt hco' _ htab' _ => ?_
    obtain ⟨o1, vs, f1, tf, fl, tg', inF, tx, tt, op, _, _, _, _, _, _, _, _, _, htr', _⟩ := hco'
    exact cont _ h' tk _ hx htab'.2 htr'
  | some cv =>
    refine wpAny_genexprCode_hit hcode (cd.code hPs htr) hf ?_
    exact cont cv s2.heap s2.toks #[] (Heap.ExtBut.refl _ _) (by rw [Array.append_empty]; exact hPs) (by rw [Array.append_empty]; exact htr)
theorem over_frames {A : Around} {elt tg iter : Expr} {ifs : List Expr} {scope : Scope} {pos : Pos} {it : Value} {env : Env} {l : List Env} (h : A.frames = some l) :
    (A.over (.compLoop (.GeneratorExp elt [⟨tg, iter, ifs, 0⟩] scope pos) 0 it .none env) []).frames = some (env :: l) := by
  unfold Around.over
  simp only [h]
  rfl
theorem over_room {A : Around} {elt tg iter : Expr} {ifs : List Expr} {scope : Scope} {pos : Pos} {it : Value} {env : Env} {k : Nat} (r : Room (k + 1) A) :
    Room k (A.over (.compLoop (.GeneratorExp elt [⟨tg, iter, ifs, 0⟩] scope pos) 0 it .none env) []) :=
  ⟨r.hd, by have := r.dp; show A.depth + 0 + 1 + 3 * k + 5 < _; omega, by have := r.un; show A.units + 0 + 3 + 16 * k + 200 < _; omega⟩
/-- what the rules ask of a generator expression's parts -/
structure GxP (X : Cx) (k : Nat) (elt tg : Expr) (ifs : List Expr) (scope : Scope) (N : List Str) (g : TG) (tt : TT) (te : TE) : Prop where
  pg : ∀ (A : Around) (s : Shared) (G : Hp) (C : Addr) (code : Value) (fp : List Addr), PG (gcx X A N s G (gEnv X scope C code) fp) tg g
  pt : ∀ (A : Around) (s : Shared) (G : Hp) (C : Addr) (code : Value) (fp : List Addr), Room k A → PTs (gcx X A N s G (gEnv X scope C code) fp) ifs tt
  pe : ∀ (A : Around) (s : Shared) (G : Hp) (C : Addr) (code : Value) (fp : List Addr), Room k A → PE (gcx X A N s G (gEnv X scope C code) fp) elt te
/-- a turn's reading; end_: what is wanted behind the last, yl: at an item -/
def GxT {α : Type} (J : It) (g : TG) (tt : TT) (te : TE) (vs : List Nat) (σ0 : L2.St) (W : Nat → Nat → α → Hp → Prop) (yl : α → V → Hp → (α → Hp → Prop) → Prop) (dn : α → Hp → Prop) : Prop :=
  ∀ i m a H, W i m a H → (J.stop i H ∧ dn a H) ∨ (J.go i H ∧ ∃ Nx : α → Hp → Prop, (∀ a' H', Nx a' H' → ∃ m', m' < m ∧ W (i + 1) m' a' H') ∧
    ∀ x H1, J.yld i H x H1 → g x σ0 H1 fun σ2 H2 => wipe σ2 vs = σ0 ∧ tt σ2 H2 fun b H3 => if b = true then te σ2 H3 fun y H4 => yl a y H4 Nx else Nx a H3)
section
variable {α : Type} {elt tg iter : Expr} {ifs : List Expr} {scope : Scope} {gpos : Pos} {N : List Str} {src : List (Option Nat)} {J : It} {G : Hp} {it : Addr} {fp : List Addr} {tn : Nat → Heap → Prop} {code : Value} {s4 t : Shared} {ga : Addr} {g : Nat} {gg : TG} {tt : TT} {te : TE}
/-- the data of the generator with a consumer -/
abbrev Ready.dat (_ : Ready X pins σ elt tg iter ifs scope gpos N src J G it fp tn code s4 t ga g) (A : Around) (prot : List Addr) (Acc : α → Heap → Prop) (W : Nat → Nat → α → Hp → Prop) (Yl : α → V → Hp → (α → Hp → Prop) → Prop) (Dn : α → Hp → Prop) (vs : List Nat) : GxD α :=
  ⟨gcx X (A.in1.over (.compLoop (.GeneratorExp elt [⟨tg, iter, ifs, 0⟩] scope gpos) 0 (.ref it) .none (gEnv X scope s4.heap.objs.size code)) []) N s4 G (gEnv X scope s4.heap.objs.size code) fp, elt, tg, iter, ifs, scope, gpos, it, fp, tn, J, prot, Acc, W, Yl, Dn, wipe (gxσ src σ) vs, vs⟩
theorem Ready.live (R : Ready X pins σ elt tg iter ifs scope gpos N src J G it fp tn code s4 t ga g) {k : Nat} {A : Around} {C : List (Addr × Obj)} {Acc : α → Heap → Prop} {W : Nat → Nat → α → Hp → Prop} {Yl : α → V → Hp → (α → Hp → Prop) → Prop} {Dn : α → Hp → Prop} {vs : List Nat} {a : α} {m : Nat} {h' : Heap} {tk : Nat}
    (S : GxS X.N X.env.scope scope N src) (hp : GxP X k elt tg ifs scope N gg tt te) (room : Room (k + 1) A.in1) (hA : A.in1.frames = some X.stack) (ht : GxT J gg tt te vs (wipe (gxσ src σ) vs) W Yl Dn)
    (hk : ∀ b o, t.heap.get? b = some o → h'.get? b = some o) (hC : ∀ p ∈ C, h'.get? p.1 = some p.2 ∧ t.heap.objs.size ≤ p.1 ∧ ∀ v, p.2.data ≠ .cell v) (hacc : Acc a h') (hw : W 0 m a G) :
    (R.dat A (ga :: C.map (·.1)) Acc W Yl Dn vs).Ok gg tt te ∧ (R.dat A (ga :: C.map (·.1)) Acc W Yl Dn vs).Live A ga g (m + 1) a { t with heap := h', toks := tk } := by
  have hZ := R.inv (A.in1.over (.compLoop (.GeneratorExp elt [⟨tg, iter, ifs, 0⟩] scope gpos) 0 (.ref it) .none (gEnv X scope s4.heap.objs.size code)) []) room.hd (over_frames hA)
  have hZ2 : L2.Inv (gcx X (A.in1.over (.compLoop (.GeneratorExp elt [⟨tg, iter, ifs, 0⟩] scope gpos) 0 (.ref it) .none (gEnv X scope s4.heap.objs.size code)) []) N s4 G (gEnv X scope s4.heap.objs.size code) fp) [] (wipe (gxσ src σ) vs) G { t with heap := h', toks := tk } :=
    (hZ.weak (wipe_length _ _) fun j v e => (wipe_some e).1).kept (t' := tk) hk
  obtain ⟨og, nm, qn, hog, hcls, hdat, hsl⟩ := id R.isg
  have young : ∀ b, s4.heap.objs.size < b → G b = none ∧ b ≠ s4.heap.objs.size ∧ b ∉ frs X.stack := fun b hb => ⟨R.i4.hok.fresh (Nat.le_of_lt hb), Nat.ne_of_gt hb, fun z => by
    rcases List.mem_cons.mp (R.i4.stkSub b z) with z | z
    · rw [z] at hb
      exact absurd (Nat.lt_trans R.i4.lt hb) (Nat.lt_irrefl _)
    · exact R.i4.nofs (Nat.le_of_lt hb) z⟩
  have cY : ∀ p ∈ C, s4.heap.objs.size < p.1 := fun p hp' => Nat.lt_of_lt_of_le (Nat.lt_trans R.new R.lt) (hC p hp').2.1
  have ok : (R.dat A (ga :: C.map (·.1)) Acc W Yl Dn vs).Ok gg tt te := ⟨rfl, rfl, S.co, R.turn, hp.pg .., hp.pt _ _ _ _ _ _ (over_room room), hp.pe _ _ _ _ _ _ (over_room room), ht⟩
  have GI : (R.dat A (ga :: C.map (·.1)) Acc W Yl Dn vs).Inv ((ga, og) :: C) G { t with heap := h', toks := tk } := by
    refine ⟨rfl, hZ2.pins_of fun p hp' => ?_, fun b hb => ?_⟩
    · rcases List.mem_cons.mp hp' with rfl | hp'
      · obtain ⟨y1, y2, y3⟩ := young ga R.new
        exact ⟨hk _ _ hog, y1, y2, y3, fun v z => by rw [hdat] at z; cases z⟩
      · obtain ⟨y1, y2, y3⟩ := young p.1 (cY p hp')
        exact ⟨(hC p hp').1, y1, y2, y3, (hC p hp').2.2⟩
    · refine ⟨(R.fpX b hb).1.1, Nat.ne_of_lt (R.fpX b hb).2, hZ.ok.exfs b hb, .inl hb, (hZ.ok.exf b hb).2, fun p hp' z => ?_⟩
      have hb2 := (R.fpX b hb).2
      rcases List.mem_cons.mp (show p ∈ (ga, og) :: C from hp') with e | hp'
      · rw [← z, e] at hb2
        exact absurd (Nat.lt_trans R.new hb2) (Nat.lt_irrefl _)
      · rw [← z] at hb2
        exact absurd (Nat.lt_trans (cY p hp') hb2) (Nat.lt_irrefl _)
  refine ⟨ok, List.mem_cons_self, ⟨og, nm, qn, hk _ _ hog, hcls, hdat, hsl⟩, hacc, ⟨_, _, GI⟩, _, R.gen, rfl, ?_⟩
  exact gx_begin ok (A := A.in1) rfl (Nat.lt_succ_self m) (GI.setGen rfl) (R.turn.keep _ _ _ R.tn0 fun b _ o e => hk b o e) hacc hw
/-- back in the def -/
theorem Ready.back (R : Ready X pins σ elt tg iter ifs scope gpos N src J G it fp tn code s4 t ga g) {A : Around} {prot : List Addr} {Acc : α → Heap → Prop} {W : Nat → Nat → α → Hp → Prop} {Yl : α → V → Hp → (α → Hp → Prop) → Prop} {Dn : α → Hp → Prop} {vs : List Nat} {pn : List (Addr × Obj)} {H' : Hp} {s' : Shared}
    (GI : (R.dat A prot Acc W Yl Dn vs).Inv pn H' s') : L2.Inv X pins σ H' s' :=
  R.i4.call' (ch := fp) GI.2.1.os GI.2.1.base GI.2.1.hok GI.2.1.bare fun b hb => ⟨(R.fpX b hb).1.2.2.2.1, (R.fpX b hb).1.2.1, (R.fpX b hb).1.2.2.2.2.1, (R.fpX b hb).1.2.2.2.2.2⟩
end
/-- all(elt for ..), any(elt for ..), sum(elt for ..) -/
def tAllG (P : Addr) (stop : Bool) (wi : TI) (g : TG) (tt : TT) (te : TE) (src : List (Option Nat)) (vs : List Nat) : TE := fun σ H Q => wi σ H fun J H1 => TabG H1 P ∧ ∀ H2, Tabd P H1 H2 →
  ∃ W : Nat → Nat → Hp → Prop, (∃ m, W 0 m H2) ∧ GxT (α := Unit) J g tt te vs (wipe (gxσ src σ) vs) (fun i m _ H => W i m H) (ylAll stop fun H' => Q (.bl stop) H') (fun _ H' => Q (.bl !stop) H')
section
variable {c P : Addr} {elt tg iter : Expr} {ifs : List Expr} {scope : Scope} {gpos p pos : Pos} {N : List Str} {src : List (Option Nat)} {wi : TI} {g : TG} {tt : TT} {te : TE} {k : Nat} {vs : List Nat}
theorem pe_all (hr : Room (k + 3) X.A) (hg : Gl X "all") (hm : X.mg "all" = none) (hb : bootBuiltins "all" = some (.builtin "all")) (TB : LamX.TabB X.base X.mg c P) (hcode : X.env.code = .ref c) (S : GxS X.N X.env.scope scope N src) (hi : PI X tg iter wi) (hp : GxP X k elt tg ifs scope N g tt te)
    (hs : ∀ v, genFold iter X.env v = pure v := by intro _; rfl)
    (he : starEach [.GeneratorExp elt [⟨tg, iter, ifs, 0⟩] scope gpos] X.env = (false, eval (.GeneratorExp elt [⟨tg, iter, ifs, 0⟩] scope gpos) X.env) :: starEach [] X.env := by rfl) :
    PE X (.Call (.Name "all" p) [.GeneratorExp elt [⟨tg, iter, ifs, 0⟩] scope gpos] [] pos) (tAllG P false wi g tt te src vs) := by
  refine ⟨fun pins s σ H Q I h => ?_⟩
  refine wpAny_Call_Name_kw (ld_blt I hg hm hb (PyProof.Rows.callWith_builtin1 ?_ he (by rfl)))
  rw [he]
  show wpAny _ _ (spliced ((false, eval (.GeneratorExp elt [⟨tg, iter, ifs, 0⟩] scope gpos) X.env) :: backTo pos (starEach [] X.env))) _ _ s
  refine Calls.spliced_cons (gx_make hr TB hcode S hi hs I h fun J G it fp tn code s4 t ga gn q R => Calls.spliced_nil ?_)
  obtain ⟨W, ⟨m, w0⟩, ht⟩ := q
  have r1 : Room (k + 2) X.A.in1 := hr.in1
  have r2 : Room (k + 1) X.A.in1.in1 := r1.in1
  obtain ⟨ok, L⟩ := R.live (A := X.A.in1) (C := []) (Acc := fun _ _ => True) (a := ()) (m := m) (h' := t.heap) (tk := t.toks) S hp r2 I.ok.frames ht (fun _ _ e => e) (fun _ z => nomatch z) trivial w0
  refine call_function_tree F.kind_all F.plain_all F.entry_all (F.args_all1 _) ?_
  unfold Builtin.«all»
  refine wpAny_bind (m := oneArg "all" _) (wpAny_pure ?_)
  refine wpAny_bind (wpAny_pyIter_gen R.isg ?_)
  refine wpAny_pure ⟨plainId_quiet F.plain_all_loop _, all_loop (A := X.A) hr.hd hr.depth rfl rfl (fun pn H' t' GI dn => ?_) (fun pn H' t' GI q => ?_) (m + 1) t L⟩
  · exact ⟨.bl true, H', R.back GI, rfl, dn⟩
  · exact ⟨.bl false, H', R.back GI, rfl, q⟩
end
end
/-- by a look at the names -/
def gxsB (XN : List Str) (xsc scope : Scope) (N : List Str) (src : List (Option Nat)) : Bool :=
  decide (scope.kind = .function) && (!scope.isCoroutine && ((scope.names.all fun y => decide (y.2 ≠ .cell)) && (decide (scope.names.lookup (".0" : Str) = some NameKind.local) &&
  ((scope.names.all fun y => decide (y.2 ≠ .free) || decide (xsc.names.lookup y.1 = some .cell) || decide (xsc.names.lookup y.1 = some .free)) && (decide (src.length = N.length) && (decide N.Nodup &&
  (List.range src.length).all fun i => match src[i]? with
    | some (some j) => (match N[i]? with
      | some x => decide (XN[j]? = some x) && decide (scope.names.lookup x = some .free)
      | none => false)
    | _ => true))))))
theorem gxs_of {XN : List Str} {xsc scope : Scope} {N : List Str} {src : List (Option Nat)} (h : gxsB XN xsc scope N src = true) : GxS XN xsc scope N src := by
  unfold gxsB at h
  simp only [Bool.and_eq_true, decide_eq_true_eq, Bool.not_eq_true', List.all_eq_true, Bool.or_eq_true] at h
  obtain ⟨h1, h2, h3, h4, h5, h6, h7, h8⟩ := h
  refine ⟨h1, h2, h3, h4, fun y hy e => ?_, h6, h7, fun i j e => ?_⟩
  · rcases h5 y hy with (z | z) | z
    · exact absurd e z
    · exact .inl z
    · exact .inr z
  · have hi : i < src.length := (List.getElem?_eq_some_iff.mp e).1
    have q := h8 i (List.mem_range.mpr hi)
    rw [e] at q
    cases hn : N[i]? with
    | none => rw [hn] at q; cases q
    | some x =>
      rw [hn] at q
      obtain ⟨q1, q2⟩ := Bool.and_eq_true_iff.mp q
      exact ⟨x, rfl, of_decide_eq_true q1, of_decide_eq_true q2⟩
end FF
namespace FF
open PySem PySem.Spec PyProof.Rows L2
variable [LT]
/-! ### tuple(elt for ..) -/
section
variable {α : Type}
theorem gx_nextA {D : GxD α} {A : Around} {ga : Addr} {g n : Nat} {a : α} {s : Shared} {Q : Option Value → Shared → Prop} {E : Value → Shared → Prop} (calm : A.handled = none) (room : A.depth < recursionLimit)
    (hfun : ∀ a a' h, D.Acc a h → D.Acc a' h → a = a') (hpr : ∀ a h h', (∀ b ∈ D.prot, h'.get? b = h.get? b) → D.Acc a h → D.Acc a h') (L : D.Live A ga g n a s)
    (some_ : ∀ v x H Nx t, RelV x v → D.Told A ga g n a x H Nx t → Q (some v) t)
    (none_ : ∀ pins H t, D.Inv pins H t → D.Acc a t.heap → D.Dn a H → Q none t) :
    wpAny (model D.Z.prog D.Z.w) A (pyNext (.ref ga)) Q E s := by
  obtain ⟨pins0, H0, G0⟩ := L.inv
  obtain ⟨gs, hgs, hgo⟩ := L.go
  refine wpAny_pyNext_genexpQ (P := D.P) (Y := D.Y) (n := n) calm G0.2.1.nolimit room L.isg hgs hgo (fun v t gs' hb hv => ?_) (fun t hp h' hk => ?_)
  · obtain ⟨i, a1, pins, H, x, Nx, rx, hz, hacc, h0, G, htn, hyl, kap⟩ := hv
    have ea : a1 = a := hfun _ _ _ hacc L.acc
    subst ea
    have same : ∀ b ∈ D.prot, t.heap.get? b = s.heap.get? b := fun b hb' => pins_same G h0 hb'
    have isg : t.heap.IsGen ga g := by
      obtain ⟨o, nm, qn, ho, r⟩ := L.isg
      exact ⟨o, nm, qn, (same ga L.mem).trans ho, r⟩
    refine some_ v x H Nx _ rx ⟨⟨pins, G.setGen hb⟩, hpr _ _ _ same hacc, hyl, isg, i, htn, fun s' pins' H' a' hge isg' G' htn' hacc' nx => ?_⟩
    have kp := kap (s'.setGen g .running) pins' H' a' (G'.setGen rfl) htn' hacc' nx
    cases n with
    | zero => exact kp.elim
    | succ n' =>
    refine ⟨n', rfl, L.mem, isg', hacc', ⟨_, _, G'⟩, gs', ?_, kp⟩
    rw [hge]
    · have hlt : g < t.gens.size := by
        have h1 : g < s.gens.size := (Array.getElem?_eq_some_iff.mp hgs).1
        have h2 : (s.setGen g .running).gens.size = s.gens.size := by simp [Shared.setGen]
        omega
      simp [Shared.setGen, hlt]
  · obtain ⟨a1, pins, H, hacc, h0, G, hdn⟩ := hp
    have ea : a1 = a := hfun _ _ _ hacc L.acc
    subst ea
    refine none_ pins H _ ⟨G.1, Inv.gens (G := (t.setGen g .finished).gens) (G.2.1.kept (t' := t.toks) hk) (bare_set G.2.1.bare rfl), G.2.2⟩ (hpr _ _ _ (fun b hb => ?_) hacc) hdn
    have hb2 := hb
    rw [← G.1] at hb2
    obtain ⟨p, hp, e⟩ := List.mem_map.mp hb2
    have h1 := h0 p hp
    have h2 := (G.2.1.pin p (List.mem_append_right _ hp)).1
    rw [← e]
    exact (hk _ _ h2).trans h1.symm
def accLst (S : Addr) : List V → Heap → Prop := fun xs h => ∃ (its : List Value) (c : Nat), Vals xs its ∧ h.get? S = some { cls := .type "list", dict := none, data := .seq its.toArray c, slots := #[] }
def ylLst : List V → V → Hp → (List V → Hp → Prop) → Prop := fun xs x H Nx => xs.length < sizeLine ∧ Nx (xs ++ [x]) H
theorem lst_loop {D : GxD (List V)} {A : Around} {ga S : Addr} {g : Nat} {res : Value} {R : Result → Shared → Prop} (calm : A.handled = none) (room : A.depth < recursionLimit) (hT : ∀ i h h', D.tn i h → (∀ b ∈ D.fp, ∀ o, h.get? b = some o → h'.get? b = some o) → D.tn i h')
    (ow : D.Own ga S) (hyl : D.Yl = ylLst) (hac : D.Acc = accLst S) (fin : ∀ pins H t xs, D.Inv pins H t → accLst S xs t.heap → D.Dn xs H → R (.ok (.ret res)) t) :
    ∀ n s xs, D.Live A.in1 ga g n xs s → codeAny (model D.Z.prog D.Z.w) A (.builtin "list.extend.loop" ⟨[.ref S, .ref ga, res], []⟩) R s := by
  have hS : S ∈ D.prot := by rw [ow.prot]; simp
  have hfun : ∀ a a' h, D.Acc a h → D.Acc a' h → a = a' := by
    intro a a' h h1 h2
    rw [hac] at h1 h2
    obtain ⟨t, c, v, e⟩ := h1
    obtain ⟨t', c', v', e'⟩ := h2
    rw [e] at e'
    injection e' with e1
    injection e1 with _ _ e2
    injection e2 with e3
    have e4 : t = t' := by simpa using e3
    subst e4
    exact v.inj v'
  have hpr : ∀ a h h', (∀ b ∈ D.prot, h'.get? b = h.get? b) → D.Acc a h → D.Acc a h' := by
    intro a h h' e h1
    rw [hac] at h1 ⊢
    obtain ⟨t, c, v, q⟩ := h1
    exact ⟨t, c, v, (e S hS).trans q⟩
  intro n
  induction n using Nat.strongRecOn with
  | _ n ih =>
    intro s xs L
    refine codeAny_builtin F.entry_extend_loop ?_
    rw [Around.under_plainId F.plain_extend_loop _]
    show wpAny _ A.in1 (pyNext (.ref ga) >>= _) _ _ s
    refine wpAny_bind (gx_nextA (A := A.in1) calm room hfun hpr L (fun v x H Nx t rx T => ?_) (fun pins H t G acc dn => ?_))
    · have yl := T.yl
      rw [hyl] at yl
      obtain ⟨hl, q⟩ := yl
      have a1 := T.acc
      rw [hac] at a1
      obtain ⟨its, c1, v1, e1⟩ := a1
      have hsz : its.toArray.size = xs.length := by rw [List.size_toArray]; exact v1.length.symm
      show wpAny _ A.in1 (updateSeq S (·.push v) >>= _) _ _ _
      refine wpAny_bind (wpAny_updateSeq e1 rfl ?_ (by rw [hsz]; omega) (by rw [Array.size_push, hsz]; omega))
      have e2 := Heap.get?_update_self (Obj.mapSeq (·.push v)) e1 rfl
      have acc2 : accLst S (xs ++ [x]) (t.heap.update S (Obj.mapSeq (·.push v))) := ⟨its ++ [v], _, v1.append (.cons rx .nil), by
        rw [e2]
        simp [Obj.mapSeq]
        rfl⟩
      obtain ⟨n', rfl, L'⟩ := T.write (a' := xs ++ [x]) hT ow t.toks (fun b u hb e => (Heap.get?_update_other _ _ (Ne.symm hb)).trans e) e2 (fun v z => by cases z) q (by rw [hac]; exact acc2)
      exact wpAny_pure ⟨plainId_quiet F.plain_extend_loop _, ih n' (Nat.lt_succ_self _) _ _ L'⟩
    · rw [hac] at acc
      exact wpAny_pure (fin pins H t xs G acc dn)
end
section
variable {X : Cx} {pins : List (Addr × Obj)} {σ : L2.St} {elt tg iter : Expr} {ifs : List Expr} {scope : Scope} {gpos : Pos} {N : List Str} {src : List (Option Nat)} {J : It} {G : Hp} {it : Addr} {fp : List Addr} {tn : Nat → Heap → Prop} {code : Value} {s4 t : Shared} {ga : Addr} {g : Nat} {gg : TG} {tt : TT} {te : TE}
theorem collect_gx (R : Ready X pins σ elt tg iter ifs scope gpos N src J G it fp tn code s4 t ga g) {k : Nat} {A : Around} {W : Nat → Nat → List V → Hp → Prop} {Dn : List V → Hp → Prop} {vs : List Nat} {m : Nat} {Q : List Value → Shared → Prop} {E : Value → Shared → Prop}
    (S : GxS X.N X.env.scope scope N src) (hp : GxP X k elt tg ifs scope N gg tt te) (calm : A.handled = none) (dep : A.depth < recursionLimit) (room : Room (k + 1) A.in1.in1) (hA : A.in1.in1.frames = some X.stack) (hd : X.A.handled = none) (fr : X.A.frames = some X.stack)
    (ht : GxT J gg tt te vs (wipe (gxσ src σ) vs) W ylLst Dn) (w0 : W 0 m [] G)
    (fin : ∀ H' t' its xs, L2.Inv X pins σ H' t' → Vals xs its → Dn xs H' → Q its t') : wpAny (model X.prog X.w) A (collect (.ref ga)) Q E t := by
  have hgen : t.TypeIs (.ref ga) "generator" := by
    obtain ⟨o, nm, qn, ho, hc, _⟩ := R.isg
    exact ⟨o, ho, hc⟩
  have hlt : ga < t.heap.objs.size := R.lt
  have hSI : t.heap.objs.size ≠ ga := Nat.ne_of_gt hlt
  unfold collect
  refine wpAny_bind (wpAny_runValue (codeAny_builtin F.entry_proto_collect ?_))
  rw [Around.under_plainId F.plain_proto_collect _]
  show wpAny _ A.in1 (newList [] >>= fun l => again (.builtin "list.__iadd__" ⟨[l, .ref ga], []⟩)) _ _ t
  refine wpAny_bind (wpAny_newObj_type ?_)
  refine wpAny_pure ⟨plainId_quiet F.plain_list_iadd _, codeAny_builtin F.entry_list_iadd ?_⟩
  rw [Around.under_plainId F.plain_list_iadd _]
  have hgen1 : ({ t with heap := t.heap.push { cls := .type "list", data := .seq ([] : List Value).toArray } } : Shared).TypeIs (.ref ga) "generator" := by
    obtain ⟨o, ho, hc⟩ := hgen
    exact ⟨o, Heap.get?_push_of_some _ ho, hc⟩
  have isg1 : (t.heap.push { cls := .type "list", data := .seq ([] : List Value).toArray }).IsGen ga g := by
    obtain ⟨o, nm, qn, ho, r⟩ := R.isg
    exact ⟨o, nm, qn, Heap.get?_push_of_some _ ho, r⟩
  show wpAny _ A.in1 (Builtin.List.listExtendWith (.ref t.heap.objs.size) (.ref ga) (.ref t.heap.objs.size)) _ _ _
  unfold Builtin.List.listExtendWith
  refine wpAny_bind (wpAny_typeOf hgen1 ?_)
  have h1 : Builtin.List.listSameRef (.ref t.heap.objs.size) (.ref ga) = false := by simp [Builtin.List.listSameRef, hSI]
  have h2 : (Value.type "generator" == Value.type "list") = false := by decide
  have h3 : (Value.type "generator" == Value.type "tuple") = false := by decide
  simp only [h1, h2, h3, Bool.or_false, Bool.false_eq_true, if_false]
  refine wpAny_bind (wpAny_pyIter_gen isg1 ?_)
  refine wpAny_bind (wpAny_holding ?_)
  unfold Builtin.List.listLengthHint
  refine wpAny_bind (wpAny_specialOf hgen1 F.gen_no_len ?_)
  show wpAny _ A.in1 (specialOf (Value.ref ga) (Str.ofString "__length_hint__") >>= _) _ _ _
  refine wpAny_bind (wpAny_specialOf hgen1 F.gen_no_hint ?_)
  refine wpAny_pure ?_
  show wpAny _ A.in1 (rule "list.extend.makes-room" >>= fun _ => Builtin.List.listTouch (.ref t.heap.objs.size) >>= fun _ =>
    again (.builtin "list.extend.loop" ⟨[.ref t.heap.objs.size, .ref ga, .ref t.heap.objs.size], []⟩)) _ _ _
  refine wpAny_bind (wpAny_rule ?_)
  have hS₁ : (t.heap.push { cls := .type "list", data := .seq ([] : List Value).toArray }).get? t.heap.objs.size = some { cls := .type "list", data := .seq ([] : List Value).toArray } := Heap.get?_push_size _ rfl
  refine wpAny_bind ?_
  show wpAny _ A.in1 (updateSeq t.heap.objs.size (·.push .none) >>= fun _ => updateSeq t.heap.objs.size (·.pop)) _ _ _
  refine wpAny_bind (wpAny_updateSeq hS₁ rfl ?_)
  have hS₂ := Heap.get?_update_self (Obj.mapSeq (·.push Value.none)) hS₁ rfl
  refine wpAny_updateSeq hS₂ rfl ?_
  have hS₃ := Heap.get?_update_self (Obj.mapSeq (·.pop)) hS₂ rfl
  have oth : ∀ b o, t.heap.get? b = some o →
      (((t.heap.push { cls := .type "list", data := .seq ([] : List Value).toArray }).update t.heap.objs.size (Obj.mapSeq (·.push Value.none))).update t.heap.objs.size (Obj.mapSeq (·.pop))).get? b = some o :=
    fun b o e => (Heap.get?_update_other _ _ (Nat.ne_of_gt (Heap.lt_size e))).trans ((Heap.get?_update_other _ _ (Nat.ne_of_gt (Heap.lt_size e))).trans (Heap.get?_push_of_some _ e))
  obtain ⟨ok, L⟩ := R.live (A := A.in1) (C := [(t.heap.objs.size, _)]) (Acc := accLst t.heap.objs.size) (a := []) (m := m) (h' := _) (tk := t.toks) S hp room hA ht oth
    (fun q hq => by rw [List.mem_singleton.mp hq]; exact ⟨hS₃, Nat.le_refl _, fun v z => by cases z⟩) ⟨[], _, .nil, hS₃⟩ w0
  have big : s4.heap.objs.size < t.heap.objs.size := Nat.lt_trans R.new R.lt
  refine wpAny_pure ⟨plainId_quiet F.plain_extend_loop _, lst_loop (A := A) calm dep ok.turn.keep ⟨rfl, Nat.ne_of_gt R.lt, Nat.le_of_lt big, Nat.ne_of_gt big, fun x c0 e z => ?_, rfl⟩ rfl rfl (fun pn H' t' xs GI acc dn => ?_) (m + 1) _ [] L⟩
  · have hZ := R.inv (A.in1.in1.over (.compLoop (.GeneratorExp elt [⟨tg, iter, ifs, 0⟩] scope gpos) 0 (.ref it) .none (gEnv X scope s4.heap.objs.size code)) []) room.hd (over_frames hA)
    obtain ⟨v, zc⟩ := hZ.cell x c0 e
    exact absurd zc.lt (by rw [z]; exact Nat.lt_irrefl _)
  · obtain ⟨its, c, vv, hS'⟩ := acc
    show wpAny _ A (load t.heap.objs.size >>= _) _ _ t'
    refine wpAny_bind (wpAny_load hS' ?_)
    refine wpAny_pure ?_
    have := fin H' t' its xs (R.back GI) vv dn
    simpa using this
end
def tTupG (P : Addr) (wi : TI) (g : TG) (tt : TT) (te : TE) (src : List (Option Nat)) (vs : List Nat) : TE := fun σ H Q => wi σ H fun J H1 => TabG H1 P ∧ ∀ H2, Tabd P H1 H2 →
  ∃ W : Nat → Nat → List V → Hp → Prop, (∃ m, W 0 m [] H2) ∧ GxT (α := List V) J g tt te vs (wipe (gxσ src σ) vs) W ylLst (fun xs H' => xs.length ≤ sizeLine ∧ ∀ q, H' q = none → Q (.ref q) (upd H' q (.tup xs)))
section
variable {X : Cx} {c P : Addr} {elt tg iter : Expr} {ifs : List Expr} {scope : Scope} {gpos p pos : Pos} {N : List Str} {src : List (Option Nat)} {wi : TI} {g : TG} {tt : TT} {te : TE} {k : Nat} {vs : List Nat}
theorem pe_tuple (hr : Room (k + 6) X.A) (hg : Gl X "tuple") (hm : X.mg "tuple" = none) (TB : LamX.TabB X.base X.mg c P) (hcode : X.env.code = .ref c) (S : GxS X.N X.env.scope scope N src) (hi : PI X tg iter wi) (hp : GxP X k elt tg ifs scope N g tt te)
    (hs : ∀ v, genFold iter X.env v = pure v := by intro _; rfl)
    (he : starEach [.GeneratorExp elt [⟨tg, iter, ifs, 0⟩] scope gpos] X.env = (false, eval (.GeneratorExp elt [⟨tg, iter, ifs, 0⟩] scope gpos) X.env) :: starEach [] X.env := by rfl) :
    PE X (.Call (.Name "tuple" p) [.GeneratorExp elt [⟨tg, iter, ifs, 0⟩] scope gpos] [] pos) (tTupG P wi g tt te src vs) := by
  refine ⟨fun pins s σ H Q I h => ?_⟩
  refine wpAny_Call_Name_kw (ld_blt I hg hm boot_tuple (PyProof.Rows.callWith_type1 ?_ he (by rfl)))
  rw [he]
  show wpAny _ _ (spliced ((false, eval (.GeneratorExp elt [⟨tg, iter, ifs, 0⟩] scope gpos) X.env) :: backTo pos (starEach [] X.env))) _ _ s
  refine Calls.spliced_cons (gx_make hr TB hcode S hi hs I h fun J G it fp tn code s4 t ga gn q R => Calls.spliced_nil ?_)
  obtain ⟨W, ⟨m, w0⟩, ht⟩ := q
  have r1 : Room (k + 5) X.A.in1 := hr.in1
  have r2 : Room (k + 4) X.A.in1.in1 := r1.in1
  have r3 : Room (k + 3) X.A.in1.in1.in1 := r2.in1
  have r4 : Room (k + 2) X.A.in1.in1.in1.in1 := r3.in1
  have hgen : t.TypeIs (.ref ga) "generator" := by
    obtain ⟨o, nm, qn, ho, hc, _⟩ := R.isg
    exact ⟨o, ho, hc⟩
  refine callType_codes (Q₁ := fun obj s₁ => s₁.TypeIs obj "tuple" ∧ EP X pins σ Q obj s₁) F.called_tuple (F.typeCall_tuple_1 _) F.entry_object_init ?_ fun obj s₁ h₁ => ⟨h₁.1, F.args_object_init_2 obj _, object_init_meets F.called_tuple.init.lookup F.called_tuple.made (by decide) X.prog X.w X.A.in1 _ s₁ ⟨h₁.1, rfl, h₁.2⟩⟩
  refine codeAny_of_tree ?_
  show wpAny _ X.A.in1.in1 (do checkBuiltinCall "tuple.__new__" ⟨[.type "tuple", .ref ga], []⟩; again (.builtin "tuple.__new__" ⟨[.type "tuple", .ref ga], []⟩)) _ _ t
  refine wpAny_bind (wpAny_of_eq (F.newCall_tuple_1 _) (wpAny_pure ⟨plainId_quiet F.plain_tuple_new _, codeAny_builtin F.entry_tuple_new ?_⟩))
  rw [Around.under_plainId F.plain_tuple_new _]
  have hsub := sub_tuple_self
  have hinit := init_tuple_lookup
  have hmh := madeHere_tuple
  wp_walk using wpAny_typeOf hgen, collect_gx (A := X.A.in1.in1) R (k := k) (m := m) S hp r2.hd r2.depth (r4.mono (by omega)) I.ok.frames hr.hd I.ok.frames ht w0
  intro H' t' its xs I' vv dn
  obtain ⟨hz, q⟩ := dn
  show wpAny _ _ (Builtin.Tuple.tupleExact its.toArray >>= fun v => ret v) _ _ _
  unfold Builtin.Tuple.tupleExact
  refine wpAny_bind (wpAny_newObj_type ?_ (by show its.toArray.size ≤ sizeLine; rw [List.size_toArray, ← vv.length]; exact hz))
  refine wpAny_pure ?_
  refine ⟨⟨_, Heap.get?_push_size _ rfl, rfl⟩, .ref t'.heap.objs.size, _, I'.laid (t' := t'.toks) (o := .tup xs) (fun b ob q => Heap.get?_push_of_some _ q) (Nat.le_refl _) ?_, rfl, q _ (I'.hok.fresh (Nat.le_refl _))⟩
  exact ⟨hz, its, vv, IsTup.new _ _⟩
end
end FF
namespace FF
open PySem PySem.Spec PyProof.Rows L2
variable [LT]
/-! ### defs of the text -/
structure DefAt (K : PySem.W.Frag) (mg : Str → Option Value) (x : Str) (st : Stmt) (ps : List Str) (f : Addr) (fd : FuncData) : Prop where
  F : FunD K x x (defArgs st) (defBody st) (defScope st) [] [] f fd
  g : mg x = some (.ref f)
  b : Binds K fd ps []
theorem DefAt.ok {P : Program} {w : World} {K : PySem.W.Frag} {mg : Str → Option Value} {base : Heap} {x : Str} {st : Stmt} {f : Addr} {fd : FuncData} {N ps : List Str} {k : Nat} {sp : Sp} (D : DefAt K mg x st ps f fd) (S : FnScope N ps (defScope st)) (len : ∀ vs H Q E, sp vs H Q E → vs.length = ps.length)
    (hbody : ∀ (A : Around) (outer : List Env) (s : Shared) (H : Hp) (vs : List V) (Q : VK) (E : XK), Room k (A.deeper (envOfC x (defScope st) s.heap.objs.size f fd.code)) → sp vs H Q E →
      ∃ t, PSs (cxOf CX0 P w K mg base N x (defScope st) f fd.code A outer s H E).nox (defBody st) t ∧ t { nx := fun _ H' => Q .non H', rt := Q } (start N vs) H) : FnOk P w K mg base CX0 (k + 1) f fd ps sp := by
  obtain ⟨oc, od, dV, kV, doc, pm, an, cdv, ct, osl, rfl, lk, hcd, _, _⟩ := D.F.ex
  refine fn_of lk hcd S len fun A outer s H vs Q E hr hsp => ?_
  obtain ⟨t, h, q⟩ := hbody A outer s H vs Q E hr hsp
  exact ⟨t, h.nox, q⟩
/-! ### heaps: what stays -/
/-- but for the addresses in S all that is tracked stays; tables stay tables -/
structure Kx (S : Addr → Prop) (H H' : Hp) : Prop where
  at_ : ∀ b o, H b = some o → (∀ ps, o ≠ .tbl ps) → ¬ S b → H' b = some o
  tab : ∀ b, TabG H b → TabG H' b
  dom : ∀ b, H' b = none → H b = none
  lam : ∀ b ps, LT.lam b = true → ¬ S b → H b = some (.tbl ps) → H' b = some (.tbl ps)
theorem upd_none {H : Hp} {p b : Addr} {o : HO} (h : upd H p o b = none) : b ≠ p ∧ H b = none := by
  by_cases e : b = p
  · rw [e, upd_same] at h
    cases h
  · rw [upd_ne e] at h
    exact ⟨e, h⟩
abbrev Ke := Kx fun _ => False
theorem Kx.refl {S : Addr → Prop} {H : Hp} : Kx S H H := ⟨fun _ _ h _ _ => h, fun _ h => h, fun _ h => h, fun _ _ _ _ h => h⟩
theorem Kx.trans {S : Addr → Prop} {H H1 H2 : Hp} (a : Kx S H H1) (b : Kx S H1 H2) : Kx S H H2 := ⟨fun c o h n q => b.at_ c o (a.at_ c o h n q) n q, fun c h => b.tab c (a.tab c h), fun c h => a.dom c (b.dom c h), fun c ps l n h => b.lam c ps l n (a.lam c ps l n h)⟩
theorem Kx.mono {S S' : Addr → Prop} {H H1 : Hp} (a : Kx S H H1) (h : ∀ b, S b → S' b) : Kx S' H H1 := ⟨fun c o e n q => a.at_ c o e n fun z => q (h c z), a.tab, a.dom, fun c ps l n e => a.lam c ps l (fun z => n (h c z)) e⟩
theorem Ke.to {S : Addr → Prop} {H H1 : Hp} (a : Ke H H1) : Kx S H H1 := a.mono fun _ z => z.elim
theorem Ke.new {S : Addr → Prop} {H : Hp} {p : Addr} {o : HO} (h : H p = none) : Kx S H (upd H p o) :=
  ⟨fun b u e _ _ => by rw [upd_ne (ne_of_none e h)]; exact e, fun b ⟨ps, e, t⟩ => ⟨ps, by rw [upd_ne (ne_of_none e h)]; exact e, t⟩, fun _ e => (upd_none e).2, fun b ps _ _ e => by rw [upd_ne (ne_of_none e h)]; exact e⟩
theorem Kx.over {S : Addr → Prop} {H H1 : Hp} {p : Addr} {o : HO} (k : Kx S H H1) (h : H p = none) : Kx S H (upd H1 p o) :=
  ⟨fun b u e n q => by rw [upd_ne (ne_of_none e h)]; exact k.at_ b u e n q, fun b t => by
    obtain ⟨ps, e, z⟩ := k.tab b t
    obtain ⟨ps0, e0, _⟩ := t
    exact ⟨ps, by rw [upd_ne (ne_of_none e0 h)]; exact e, z⟩, fun _ e => k.dom _ (upd_none e).2, fun b ps l n e => by rw [upd_ne (ne_of_none e h)]; exact k.lam b ps l n e⟩
theorem Ke.put {H : Hp} {p : Addr} {o u : HO} (h : H p = some u) (hu : ∀ ps, u ≠ .tbl ps) : Kx (fun b => b = p) H (upd H p o) :=
  ⟨fun b v e _ q => by rw [upd_ne q]; exact e, fun b ⟨ps, e, t⟩ => ⟨ps, by rw [upd_ne (ne_of e h fun z => hu ps z.symm)]; exact e, t⟩, fun _ e => (upd_none e).2, fun b ps _ q e => by rw [upd_ne q]; exact e⟩
theorem Ke.tabd {P : Addr} {H H1 : Hp} (h : TabG H P) (t : Tabd P H H1) : Ke H H1 := by
  obtain ⟨ps, hp, _, hl⟩ := h
  refine ⟨fun b o e n _ => (t.2 b fun z => ?_).trans e, fun b ⟨qs, e, q⟩ => ?_, fun b e => ?_, fun b qs l _ e => (t.2 b fun z => ?_).trans e⟩
  · rw [z, hp] at e
    exact n ps (Option.some.inj e).symm
  · by_cases hb : b = P
    · rw [hb]
      exact t.1
    · exact ⟨qs, (t.2 b hb).trans e, q⟩
  · by_cases hb : b = P
    · obtain ⟨qs, z, _⟩ := t.1
      rw [hb, z] at e
      cases e
    · exact (t.2 b hb).symm.trans e
  · rw [z, hl] at l
    cases l
theorem Ke.lst {H H' : Hp} (a : Ke H H') {p : Addr} {xs : List V} (h : H p = some (.lst xs)) : H' p = some (.lst xs) := a.at_ p _ h (fun _ z => nomatch z) fun z => z
theorem Kx.tup {S : Addr → Prop} {H H' : Hp} (a : Kx S H H') {p : Addr} {xs : List V} (h : H p = some (.tup xs)) (n : ¬ S p) : H' p = some (.tup xs) := a.at_ p _ h (fun _ z => nomatch z) n
theorem Ke.tup {H H' : Hp} (a : Ke H H') {p : Addr} {xs : List V} (h : H p = some (.tup xs)) : H' p = some (.tup xs) := a.at_ p _ h (fun _ z => nomatch z) fun z => z
theorem Kx.seqL {S : Addr → Prop} {K : PySem.W.Frag} {H H' : Hp} {p : Addr} {xs : List V} (a : Kx S H H') (h : SqL K H p xs) (n : ¬ S p) : SqL K H' p xs := by
  rcases h with (h | ⟨o, h⟩) | h
  · exact .inl (.inl (a.at_ _ _ h (fun _ z => nomatch z) n))
  · exact .inl (.inr ⟨o, a.at_ _ _ h (fun _ z => nomatch z) n⟩)
  · exact .inr h
theorem sqT_of {K : PySem.W.Frag} {H : Hp} {p : Addr} {xs : List V} (h : H p = some (.tup xs)) : SqT K H p xs := .inl (.inl h)
theorem sqL_of {K : PySem.W.Frag} {H : Hp} {p : Addr} {xs : List V} (h : H p = some (.lst xs)) : SqL K H p xs := .inl (.inl h)
/-! ### the deck of drawn numbers -/
def Dig (ds : List Int) : Prop := ∀ d ∈ ds, 0 ≤ d ∧ d < 1000
def Deck (H : Hp) (p : Addr) : Prop := ∃ ds : List Int, H p = some (.lst (ds.map V.int)) ∧ Dig ds
/-- numbers were drawn; besides nothing has changed but what is new -/
structure Dk (p : Addr) (H H' : Hp) : Prop where
  k : Kx (fun b => b = p) H H'
  d : Deck H' p
theorem Dk.refl {p : Addr} {H : Hp} (d : Deck H p) : Dk p H H := ⟨.refl, d⟩
theorem Dk.trans {p : Addr} {H H1 H2 : Hp} (a : Dk p H H1) (b : Dk p H1 H2) : Dk p H H2 := ⟨a.k.trans b.k, b.d⟩
theorem Deck.ke {H H' : Hp} {p : Addr} (d : Deck H p) (a : Ke H H') : Deck H' p := by
  obtain ⟨ds, h, g⟩ := d
  exact ⟨ds, a.lst h, g⟩
theorem Dk.ke {p : Addr} {H H1 H2 : Hp} (a : Dk p H H1) (b : Ke H1 H2) : Dk p H H2 := ⟨a.k.trans b.to, a.d.ke b⟩
theorem Dk.new {p q : Addr} {H H1 : Hp} {o : HO} (a : Dk p H H1) (h : H1 q = none) : Dk p H (upd H1 q o) := a.ke (Ke.new h)
theorem Deck.new {p q : Addr} {H : Hp} {o : HO} (a : Deck H p) (h : H q = none) : Deck (upd H q o) p := a.ke (Ke.new h)
theorem Dk.tup {p q : Addr} {H H1 : Hp} {xs : List V} (a : Dk p H H1) (d : Deck H p) (h : H q = some (.tup xs)) : H1 q = some (.tup xs) := by
  obtain ⟨ds, hd, _⟩ := d
  exact a.k.tup h (ne_of h hd (fun z => nomatch z))
theorem Dk.lst {p q : Addr} {H H1 : Hp} {xs : List V} (a : Dk p H H1) (h : H q = some (.lst xs)) (n : q ≠ p) : H1 q = some (.lst xs) := a.k.at_ q _ h (fun _ z => nomatch z) n
theorem Dk.seqL {K : PySem.W.Frag} {p q : Addr} {H H1 : Hp} {xs : List V} (a : Dk p H H1) (h : SqL K H q xs) (n : q ≠ p) : SqL K H1 q xs := a.k.seqL h n
/-! ### webs -/
def Ties (H : Hp) (rs : List V) (ts : List (Int × Int)) : Prop := Paired (fun (r : V) (t : Int × Int) => ∃ q, r = .ref q ∧ H q = some (.tup [.int t.1, .int t.2])) rs ts
def Web (H : Hp) (v : V) (n : Int) (ts : List (Int × Int)) : Prop := ∃ t u rs, v = .ref t ∧ H t = some (.tup [.int n, .ref u]) ∧ H u = some (.tup rs) ∧ Ties H rs ts
theorem Ties.mono {H H' : Hp} {rs : List V} {ts : List (Int × Int)} (h : Ties H rs ts) (k : ∀ q xs, H q = some (.tup xs) → H' q = some (.tup xs)) : Ties H' rs ts := L2.Paired.mapP h fun _ _ ⟨q, e, z⟩ => ⟨q, e, k q _ z⟩
theorem Web.mono {H H' : Hp} {v : V} {n : Int} {ts : List (Int × Int)} (h : Web H v n ts) (k : ∀ q xs, H q = some (.tup xs) → H' q = some (.tup xs)) : Web H' v n ts := by
  obtain ⟨t, u, rs, e, h1, h2, h3⟩ := h
  exact ⟨t, u, rs, e, k _ _ h1, k _ _ h2, h3.mono k⟩
theorem Ties.ke {H H' : Hp} {rs : List V} {ts : List (Int × Int)} (h : Ties H rs ts) (k : Ke H H') : Ties H' rs ts := h.mono fun _ _ => k.tup
theorem Web.ke {H H' : Hp} {v : V} {n : Int} {ts : List (Int × Int)} (h : Web H v n ts) (k : Ke H H') : Web H' v n ts := h.mono fun _ _ => k.tup
theorem Ties.dk {H H' : Hp} {p : Addr} {rs : List V} {ts : List (Int × Int)} (h : Ties H rs ts) (k : Dk p H H') (d : Deck H p) : Ties H' rs ts := h.mono fun _ _ => k.tup d
theorem Web.dk {H H' : Hp} {p : Addr} {v : V} {n : Int} {ts : List (Int × Int)} (h : Web H v n ts) (k : Dk p H H') (d : Deck H p) : Web H' v n ts := h.mono fun _ _ => k.tup d
theorem Ties.append {H : Hp} : ∀ {rs qs : List V} {ts us : List (Int × Int)}, Ties H rs ts → Ties H qs us → Ties H (rs ++ qs) (ts ++ us)
  | _, _, _, _, .nil, b => b
  | _, _, _, _, .cons r t, b => .cons r (Ties.append t b)
theorem Ties.take {H : Hp} : ∀ {rs : List V} {ts : List (Int × Int)} (n : Nat), Ties H rs ts → Ties H (rs.take n) (ts.take n)
  | _, _, 0, _ => .nil
  | _, _, _ + 1, .nil => .nil
  | _, _, n + 1, .cons r t => .cons r (Ties.take n t)
theorem Ties.drop {H : Hp} : ∀ {rs : List V} {ts : List (Int × Int)} (n : Nat), Ties H rs ts → Ties H (rs.drop n) (ts.drop n)
  | _, _, 0, h => h
  | _, _, _ + 1, .nil => .nil
  | _, _, n + 1, .cons _ t => Ties.drop n t
theorem Ties.length {H : Hp} {rs : List V} {ts : List (Int × Int)} (h : Ties H rs ts) : rs.length = ts.length := Paired.length h
theorem Ties.get {H : Hp} : ∀ {rs : List V} {ts : List (Int × Int)} {i : Nat} {r : V}, Ties H rs ts → rs[i]? = some r → ∃ t q, ts[i]? = some t ∧ r = .ref q ∧ H q = some (.tup [.int t.1, .int t.2])
  | _, _, _, _, .nil, e => by simp at e
  | _, _, 0, _, .cons (b := t) ⟨q, e1, e2⟩ _, e => by simp at e; subst e; exact ⟨t, q, rfl, e1, e2⟩
  | _, _, i + 1, r, .cons _ t, e => by
    obtain ⟨u, q, h1, h2, h3⟩ := Ties.get (i := i) (r := r) t (by simpa using e)
    exact ⟨u, q, by simpa using h1, h2, h3⟩
theorem Deck.put {H : Hp} {p q : Addr} {o : HO} (d : Deck H p) (n : p ≠ q) : Deck (upd H q o) p := by
  obtain ⟨ds, h, g⟩ := d
  exact ⟨ds, by rw [upd_ne n]; exact h, g⟩
theorem Deck.ne {H : Hp} {p q : Addr} (d : Deck H p) (h : H q = none) : p ≠ q := by
  obtain ⟨ds, e, _⟩ := d
  exact ne_of_none e h
theorem Dk.over {p q : Addr} {H G : Hp} {o : HO} (k : Dk p H G) (d : Deck H p) (h : H q = none) : Dk p H (upd G q o) := ⟨k.k.over h, k.d.put (d.ne h)⟩
theorem Ties.new {H : Hp} {p : Addr} {o : HO} {rs : List V} {ts : List (Int × Int)} (h : Ties H rs ts) (n : H p = none) : Ties (upd H p o) rs ts := h.mono fun q xs e => by rw [upd_ne (ne_of_none e n)]; exact e
theorem Ties.put {H : Hp} {p : Addr} {o : HO} {zs : List V} {rs : List V} {ts : List (Int × Int)} (h : Ties H rs ts) (n : H p = some (.lst zs)) : Ties (upd H p o) rs ts := h.mono fun q xs e => by rw [upd_ne (ne_of e n (fun z => nomatch z))]; exact e
theorem Ties.one {H : Hp} {q : Addr} {a b : Int} (h : H q = some (.tup [.int a, .int b])) : Ties H [.ref q] [(a, b)] := .cons ⟨q, rfl, h⟩ .nil
/-- a list of ties stands at l -/
def TL (H : Hp) (l : Addr) (ts : List (Int × Int)) : Prop := ∃ rs, H l = some (.lst rs) ∧ Ties H rs ts
def TOk (n : Int) (ts : List (Int × Int)) : Prop := ∀ t ∈ ts, 0 ≤ t.1 ∧ t.1 < t.2 ∧ t.2 < n
theorem TOk.nil {n : Int} : TOk n [] := fun _ z => nomatch z
theorem TOk.append {n : Int} {ts us : List (Int × Int)} (a : TOk n ts) (b : TOk n us) : TOk n (ts ++ us) := fun t ht => (List.mem_append.mp ht).elim (a t) (b t)
theorem TOk.one {n a b : Int} (h0 : 0 ≤ a) (h1 : a < b) (h2 : b < n) : TOk n [(a, b)] := fun t ht => by rw [List.mem_singleton.mp ht]; exact ⟨h0, h1, h2⟩
theorem TL.ke {H H' : Hp} {l : Addr} {ts : List (Int × Int)} (h : TL H l ts) (k : Ke H H') : TL H' l ts := by
  obtain ⟨rs, e, t⟩ := h
  exact ⟨rs, k.lst e, t.ke k⟩
theorem TL.dk {H H' : Hp} {l p : Addr} {ts : List (Int × Int)} (h : TL H l ts) (k : Dk p H H') (d : Deck H p) (n : l ≠ p) : TL H' l ts := by
  obtain ⟨rs, e, t⟩ := h
  exact ⟨rs, k.lst e n, t.dk k d⟩
end FF
namespace FF
open PySem PySem.Spec PyProof.Rows L2
variable [LT]
/-! ### the code object of a def -/
theorem code_at {K : PySem.W.Frag} {x q : Str} {pa : Arguments} {bd : List Stmt} {sc : Scope} {dvs : List V} {kws : List (Str × V)} {f : Addr} {fd : FuncData} (F : FunD K x q pa bd sc dvs kws f fd) : ∃ c, fd.code = .ref c := by
  obtain ⟨oc, od, dV, kV, doc, pm, an, cdv, ct, osl, rfl, lk, hcd, _, _⟩ := F.ex
  exact He.codeIn_ref hcd
theorem code_is {K : PySem.W.Frag} {x q : Str} {pa : Arguments} {bd : List Stmt} {sc : Scope} {dvs : List V} {kws : List (Str × V)} {p : Str × Option Str} {fd : FuncData} {c : Addr} (F : FunD K x q pa bd sc dvs kws (He.fAd K p) fd) (h : fd.code = .ref c) : fd.code = .ref (He.cT K p).1 := by
  obtain ⟨oc, od, dV, kV, doc, pm, an, cdv, ct, osl, rfl, lk, hcd, _, _⟩ := F.ex
  rw [h]
  exact congrArg Value.ref (He.codeOf_eq lk h).symm
/-! ### slices -/
theorem cut_to (xs : List V) (n : Nat) : cutV xs none (some (n : Int)) = xs.take n := by
  unfold cutV
  rw [HT.sIx_none, HT.sIx_nat]
  show (xs.drop 0).take (min n xs.length - 0) = xs.take n
  rw [List.drop_zero, Nat.sub_zero]
  rcases Nat.le_total n xs.length with h | h
  · rw [Nat.min_eq_left h]
  · rw [Nat.min_eq_right h, List.take_of_length_le (Nat.le_refl _), List.take_of_length_le h]
theorem cut_from (xs : List V) (n : Nat) : cutV xs (some (n : Int)) none = xs.drop n := by
  unfold cutV
  rw [HT.sIx_none, HT.sIx_nat]
  rcases Nat.le_total n xs.length with h | h
  · rw [Nat.min_eq_left h, List.take_of_length_le (by rw [List.length_drop]; omega)]
  · rw [Nat.min_eq_right h, Nat.sub_self, List.take_zero, List.drop_of_length_le h]
theorem cut_to' (xs : List V) {i : Int} (h : 0 ≤ i) : cutV xs none (some i) = xs.take i.toNat := by
  rw [← cut_to, Int.toNat_of_nonneg h]
theorem cut_from' (xs : List V) {i : Int} (h : 0 ≤ i) : cutV xs (some i) none = xs.drop i.toNat := by
  rw [← cut_from, Int.toNat_of_nonneg h]
theorem line_big : 16000000 ≤ sizeLine := by decide
theorem emod_bds (x : Int) {n : Int} (h : 0 < n) : 0 ≤ x % n ∧ x % n < n := ⟨Int.emod_nonneg _ (by omega), Int.emod_lt_of_pos _ h⟩
theorem get_int {xs : List Int} {i : Nat} (h : i < xs.length) : (xs.map V.int)[i]? = some (.int xs[i]) := by
  rw [List.getElem?_map, List.getElem?_eq_getElem h]
  rfl
theorem at_int {xs : List Int} {i : Int} (h0 : 0 ≤ i) (h1 : i < xs.length) : ∃ v, v ∈ xs ∧ xs[i.toNat]? = some v ∧ atI (xs.map V.int) i = some (.int v) := by
  obtain ⟨j, rfl⟩ : ∃ j : Nat, i = j := ⟨i.toNat, by omega⟩
  have hj : j < xs.length := by omega
  exact ⟨xs[j], List.getElem_mem _, List.getElem?_eq_getElem hj, atI_nat (get_int hj)⟩
theorem ix_in {n : Nat} {i : Int} (h0 : 0 ≤ i) (h1 : i < n) : ixN n i = some i.toNat := by
  unfold ixN
  rw [if_pos h0, if_pos h1]
theorem yes_ite {σ : L2.St} {H : Hp} {A B : Hp → Prop} (h : A H) : tYes σ H (fun b H3 => if b = true then A H3 else B H3) := by
  show if true = true then A H else B H
  rw [if_pos rfl]
  exact h
theorem int_at {ns : List Int} {i : Nat} {x : V} (hx : (ns.map V.int)[i]? = some x) : ∃ v, ns[i]? = some v ∧ x = .int v := by
  rw [List.getElem?_map] at hx
  cases e : ns[i]? with
  | none => rw [e] at hx; cases hx
  | some v => rw [e] at hx; exact ⟨v, rfl, (Option.some.inj hx).symm⟩
theorem Ties.rep {H : Hp} {q : Addr} {a b : Int} (h : H q = some (.tup [.int a, .int b])) : ∀ k : Nat, Ties H (List.replicate k [V.ref q]).flatten (List.replicate k (a, b))
  | 0 => .nil
  | k + 1 => by
    rw [List.replicate_succ, List.replicate_succ, List.flatten_cons]
    exact .cons ⟨q, rfl, h⟩ (Ties.rep h k)
theorem TOk.rep {n a b : Int} (h0 : 0 ≤ a) (h1 : a < b) (h2 : b < n) (k : Nat) : TOk n (List.replicate k (a, b)) := fun t ht => by
  rw [List.eq_of_mem_replicate ht]
  exact ⟨h0, h1, h2⟩
theorem TOk.mono {n m : Int} {ts : List (Int × Int)} (h : TOk n ts) (k : n ≤ m) : TOk m ts := fun t ht => ⟨(h t ht).1, (h t ht).2.1, Int.lt_of_lt_of_le (h t ht).2.2 k⟩
theorem TOk.sub {n : Int} {ts us : List (Int × Int)} (h : TOk n ts) (k : ∀ t ∈ us, t ∈ ts) : TOk n us := fun t ht => h t (k t ht)
theorem ne_one {a b : Int} (h : ¬ decide (V.int a = V.int b) = true) : a ≠ b := fun e => h (decide_eq_true (by rw [e]))
theorem lst_new {H : Hp} {p q : Addr} {o : HO} {xs : List V} (n : H p = none) (h : H q = some (.lst xs)) : upd H p o q = some (.lst xs) := by rw [upd_ne (ne_of_none h n)]; exact h
theorem tup_new {H : Hp} {p q : Addr} {o : HO} {xs : List V} (n : H p = none) (h : H q = some (.tup xs)) : upd H p o q = some (.tup xs) := by rw [upd_ne (ne_of_none h n)]; exact h
/-! ### things of any kind -/
inductive TyN (H : Hp) : V → String → Prop where
  | non : TyN H .non "NoneType"
  | bl (b : Bool) : TyN H (.bl b) "bool"
  | int (i : Int) : TyN H (.int i) "int"
  | str (x : Str) : TyN H (.str x) "str"
  | lst {a : Addr} {xs : List V} (h : H a = some (.lst xs)) : TyN H (.ref a) "list"
  | tup {a : Addr} {xs : List V} (h : H a = some (.tup xs)) : TyN H (.ref a) "tuple"
  | dic {a : Addr} {kvs : List (Key × V)} (h : H a = some (.dK kvs)) : TyN H (.ref a) "dict"
theorem TyN.x {K : PySem.W.Frag} {H : Hp} {v : V} {n : String} (h : TyN H v n) : TyX K H v (.type n) := by
  cases h with
  | non => exact .base .non
  | bl b => exact .base (.bl b)
  | int i => exact .base (.int i)
  | str x => exact .base (.str x)
  | lst h => exact .base (.lst h)
  | tup h => exact .base (.tup h)
  | dic h => exact .base (.dK h)
def isNum (v : V) (lo hi : Int) : Bool := match v with
  | .int i => decide (lo ≤ i) && decide (i ≤ hi)
  | _ => false
theorem iteB {b : Bool} {A B : Prop} (h1 : b = true → A) (h2 : b = false → B) : if b = true then A else B := by
  cases b with
  | true => exact iteT (h1 rfl)
  | false => exact iteF (h2 rfl)
/-- the names of the kinds -/
def isiB (n : String) (c : String) : Bool := n == c || (n == "bool" && c == "int")
theorem TyN.isi {K : PySem.W.Frag} {H : Hp} {v : V} {n : String} (h : TyN H v n) {c : String} (hc : c = "int" ∨ c = "bool" ∨ c = "tuple" ∨ c = "list") : PySem.W.kitOne K (.type n) (.type c) = some (isiB n c) := by
  rcases hc with rfl | rfl | rfl | rfl <;> cases h <;> exact kit_ty (by decide +kernel)
end FF
namespace FF
open PySem PySem.Spec PyProof.Rows L2
variable [LT]
/-! ### walks of generator expressions -/
section
variable {α : Type} {K : PySem.W.Frag} {u : Addr} {xs : List V} {g : TG} {tt : TT} {te : TE} {vs : List Nat} {σ0 : L2.St} {yl : α → V → Hp → (α → Hp → Prop) → Prop} {dn : α → Hp → Prop} {G : Hp} {a0 : α}
end
/-! ### ties within a lot -/
def inside (ls : List Int) (ts : List (Int × Int)) : Nat := (ts.filter fun t => decide (t.1 ∈ ls) && decide (t.2 ∈ ls)).length
theorem inV_int (a : Int) (ls : List Int) : inV (.int a) (ls.map V.int) = decide (a ∈ ls) := by
  unfold inV
  rw [List.any_map]
  induction ls with
  | nil => rfl
  | cons x r ih =>
    rw [List.any_cons, ih]
    have e : ((fun y => eqV y (V.int a)) ∘ V.int) x = decide (x = a) := rfl
    rw [e]
    by_cases hx : x = a
    · subst hx
      simp
    · have : ¬ a = x := fun z => hx z.symm
      simp [hx, this]
end FF
namespace FF
open PySem PySem.Spec PyProof.Rows L2
variable [LT]
/-! ### rules that speak of the written part, by its own letter (for the blocks of comprehensions) -/
section
variable {X : Cx} {K : PySem.W.Frag}
theorem in_seqK (h : X.K = K := by rfl) : OpR X (compareOp .In) (rIn K false) := h ▸ op_in_seq
theorem ix_listK (h : X.K = K := by rfl) : IxR X (rIxL K) := h ▸ ix_list
theorem ix_tupK (h : X.K = K := by rfl) : IxR X (rIxT K) := h ▸ ix_tup
theorem sl_listK (h : X.K = K := by rfl) : L2.SlR X (rSlL K) := h ▸ sl_list
theorem eqDK (hu : X.A.units + 64 < cLine) (h : X.K = K := by rfl) : OpR X (compareOp .Eq) (rEqD K) := h ▸ op_eqD hu
theorem neDK (hu : X.A.units + 64 < cLine) (h : X.K = K := by rfl) : OpR X (compareOp .NotEq) (rNeD K) := h ▸ op_neD hu
theorem lenK (h : X.K = K := by rfl) : CallR X (.builtin "len") (fun xs H Q => ∃ p ys, xs = [.ref p] ∧ (SqL K H p ys ∨ SqT K H p ys) ∧ Q (.int ys.length) H) := h ▸ call_len_seq
theorem listK (h : X.K = K := by rfl) : CallR X (.type "list") (fun xs H Q => ∃ p ys, xs = [.ref p] ∧ (SqL K H p ys ∨ SqT K H p ys) ∧ ∀ l, H l = none → Q (.ref l) (upd H l (.lst ys))) := h ▸ call_list_of
theorem tupleK (h : X.K = K := by rfl) : CallR X (.type "tuple") (fun xs H Q => ∃ p ys, xs = [.ref p] ∧ ((SqL K H p ys ∧ ∀ l, H l = none → Q (.ref l) (upd H l (.tup ys))) ∨ (SqT K H p ys ∧ Q (.ref p) H))) := h ▸ call_tuple_of
theorem isiK (h : X.K = K := by rfl) : CallR X (.builtin "isinstance") (rIsi K) := h ▸ call_isi
theorem tgtK {es : List Expr} {k n : Nat} {t : TGs} {pos : Pos} (hp : PGs X es t) (hc : X.calm = true := by rfl) (h : X.K = K := by rfl)
    (hn : (assignEach es X.env).length = n := by rfl) (hst : (assignEach es X.env).findIdx? (·.1) = none := by rfl) : PG X (.Tuple es k pos) (gTup K n t) := h ▸ pg_tup hc hp hn hst
end
/-! ### slices and sums of tuples: what is told may be an old tuple or a new one -/
end FF
namespace FF
open PySem PySem.Spec PyProof.Rows L2
variable [LT]
/-! ### walked things with the written part said -/
section
variable {X : Cx} {K : PySem.W.Frag} {tg l : Expr} {tl : TE}
theorem pi_listK (hl : PE X l tl) (h : X.K = K := by rfl) : PI X tg l (iList K tl) := h ▸ pi_list hl
end
section
variable {X : Cx} {K : PySem.W.Frag} {T : String} {name : Str} {id : String} {r : V → List V → Hp → VK → Prop} {o e : Expr} {es : List Expr} {to : TE} {t : TA} {apos cpos : Pos}
end
end FF
namespace FF
open PySem PySem.Spec PyProof.Rows L2
variable [LT]
/-! ### lots -/
/-- a thing is a tuple of these, or of another kind -/
inductive Tpl (H : Hp) : V → Option (List V) → Prop where
  | yes {a : Addr} {xs : List V} (h : H a = some (.tup xs)) (hx : ∀ x ∈ xs, ∃ n, TyN H x n) : Tpl H (.ref a) (some xs)
  | no {v : V} {n : String} (h : TyN H v n) (hn : n ≠ "tuple") : Tpl H v none
/-- rising from lo, below n -/
def rising (n : Int) : Int → List V → Bool
  | _, [] => true
  | lo, v :: r => match v with
    | .int i => isNum v lo (n - 1) && rising n (i + 1) r
    | _ => false
def lotO (n : Int) : Option (List V) → Bool
  | none => false
  | some [] => false
  | some (v :: r) => rising n 0 (v :: r)
def intsOf (xs : List V) : List Int := xs.map fun v => match v with
  | .int i => i
  | _ => 0
def fullO (n : Int) (ts : List (Int × Int)) (k : Int) (o : Option (List V)) : Bool := lotO n o && match o with
  | none => false
  | some xs => decide ((inside (intsOf xs) ts : Int) > k * ((xs.length : Int) - 1))
theorem intsOf_map (ls : List Int) : intsOf (ls.map V.int) = ls := by
  unfold intsOf
  rw [List.map_map]
  exact List.map_id' ls
structure Lot (n : Int) (ls : List Int) : Prop where
  ne : ls ≠ []
  up : ls.Pairwise (· < ·)
  ok : ∀ x ∈ ls, 0 ≤ x ∧ x < n
theorem rising_of {n : Int} : ∀ {lo : Int} {ls : List Int}, ls.Pairwise (· < ·) → (∀ x ∈ ls, lo ≤ x ∧ x < n) → rising n lo (ls.map V.int) = true
  | _, [], _, _ => rfl
  | lo, i :: r, hp, hx => by
    obtain ⟨h1, h2⟩ := List.pairwise_cons.mp hp
    have hi := hx i List.mem_cons_self
    show (isNum (.int i) lo (n - 1) && rising n (i + 1) (r.map V.int)) = true
    rw [Bool.and_eq_true_iff]
    refine ⟨?_, rising_of h2 fun x hm => ⟨?_, (hx x (List.mem_cons_of_mem _ hm)).2⟩⟩
    · show (decide (lo ≤ i) && decide (i ≤ n - 1)) = true
      rw [decide_eq_true hi.1, decide_eq_true (by omega : i ≤ n - 1)]
      rfl
    · have := h1 x hm
      omega
theorem Lot.o {n : Int} {ls : List Int} (h : Lot n ls) : lotO n (some (ls.map V.int)) = true := by
  cases e : ls with
  | nil => exact absurd e h.ne
  | cons i r =>
    rw [← e]
    have : lotO n (some (ls.map V.int)) = rising n 0 (ls.map V.int) := by rw [e]; rfl
    rw [this]
    exact rising_of h.up h.ok
theorem Lot.full {n : Int} {ls : List Int} (h : Lot n ls) (ts : List (Int × Int)) (k : Int) : fullO n ts k (some (ls.map V.int)) = decide ((inside ls ts : Int) > k * ((ls.length : Int) - 1)) := by
  unfold fullO
  rw [h.o, Bool.true_and]
  show decide ((inside (intsOf (ls.map V.int)) ts : Int) > k * (((ls.map V.int).length : Int) - 1)) = _
  rw [intsOf_map, List.length_map]
theorem Lot.one {n x : Int} (h0 : 0 ≤ x) (h1 : x < n) : Lot n [x] := ⟨List.cons_ne_nil _ _, List.pairwise_singleton _ _, fun y hy => by rw [List.mem_singleton.mp hy]; exact ⟨h0, h1⟩⟩
theorem Lot.two {n x y : Int} (h0 : 0 ≤ x) (h1 : x < y) (h2 : y < n) : Lot n [x, y] := ⟨List.cons_ne_nil _ _, by simp [h1], fun z hz => by
  rcases List.mem_cons.mp hz with rfl | hz
  · exact ⟨h0, by omega⟩
  · rw [List.mem_singleton.mp hz]
    exact ⟨by omega, h2⟩⟩
theorem ty_ints {H : Hp} (ls : List Int) : ∀ x ∈ ls.map V.int, ∃ n, TyN H x n := fun x hx => by
  obtain ⟨i, _, rfl⟩ := List.mem_map.mp hx
  exact ⟨_, .int i⟩
theorem dp_ints {K : PySem.W.Frag} {H : Hp} : ∀ ls : List Int, DpAll K H (ls.map V.int) (ls.map PyData.int)
  | [] => .nil
  | i :: r => .cons (.int i) (dp_ints r)
theorem Lot.all {n : Int} (h : 1 ≤ n) : Lot n ((List.range n.toNat).map fun (i : Nat) => (i : Int)) := by
  refine ⟨fun z => ?_, ?_, fun x hx => ?_⟩
  · have := congrArg List.length z
    simp at this
    omega
  · rw [List.pairwise_map]
    exact List.pairwise_lt_range.imp fun h => by omega
  · obtain ⟨i, hi, rfl⟩ := List.mem_map.mp hx
    have := List.mem_range.mp hi
    omega
theorem rgV_ints (n : Int) : rgV 0 n = ((List.range n.toNat).map fun (i : Nat) => (i : Int)).map V.int := by
  unfold rgV
  rw [List.map_map, Int.sub_zero]
  apply List.map_congr_left
  intro i _
  show V.int (0 + (i : Int)) = V.int (i : Int)
  rw [Int.zero_add]
theorem up_length {n : Int} : ∀ {lo : Int} {ls : List Int}, ls.Pairwise (· < ·) → (∀ x ∈ ls, lo ≤ x ∧ x < n) → (ls.length : Int) ≤ max 0 (n - lo)
  | _, [], _, _ => by simp; omega
  | lo, i :: r, hp, hx => by
    obtain ⟨h1, h2⟩ := List.pairwise_cons.mp hp
    have hi := hx i List.mem_cons_self
    have ih := up_length (lo := i + 1) h2 fun x hm => ⟨by have := h1 x hm; omega, (hx x (List.mem_cons_of_mem _ hm)).2⟩
    rw [List.length_cons]
    omega
theorem Lot.length {n : Int} {ls : List Int} (h : Lot n ls) : (ls.length : Int) ≤ max 0 n := by
  have := up_length h.up h.ok
  omega
end FF
namespace FF
open PySem PySem.Spec PyProof.Rows L2
variable [LT]
/-! ### joined points: roots, labels, and how many are apart (plain mathematics) -/
theorem step_mem (acc : List Int) (x k : Int) : k ∈ step_dedup acc x ↔ k ∈ acc ∨ k = x := by
  unfold step_dedup
  split
  · rename_i h
    constructor
    · exact .inl
    · rintro (z | rfl)
      · exact z
      · simpa using h
  · simp
theorem step_nd {acc : List Int} (x : Int) (h : acc.Nodup) : (step_dedup acc x).Nodup := by
  unfold step_dedup
  split
  · exact h
  · rename_i hx
    rw [List.nodup_append]
    refine ⟨h, by simp, fun a ha b hb => ?_⟩
    rw [List.mem_singleton.mp hb]
    rintro rfl
    exact hx (by simpa using ha)
theorem fold_mem : ∀ (ns acc : List Int) (k : Int), k ∈ ns.foldl step_dedup acc ↔ k ∈ acc ∨ k ∈ ns
  | [], acc, k => by simp
  | x :: r, acc, k => by
    rw [List.foldl_cons, fold_mem r, step_mem, List.mem_cons, or_assoc]
theorem fold_nd : ∀ (ns acc : List Int), acc.Nodup → (ns.foldl step_dedup acc).Nodup
  | [], _, h => h
  | x :: r, acc, h => by
    rw [List.foldl_cons]
    exact fold_nd r _ (step_nd x h)
theorem mem_nub (ns : List Int) (k : Int) : k ∈ nub ns ↔ k ∈ ns := by
  unfold nub
  rw [fold_mem]
  simp
theorem nub_nd (ns : List Int) : (nub ns).Nodup := fold_nd ns [] List.nodup_nil
theorem nd_le : ∀ {l m : List Int}, l.Nodup → (∀ x ∈ l, x ∈ m) → l.length ≤ m.length
  | [], _, _, _ => Nat.zero_le _
  | x :: r, m, hd, hs => by
    obtain ⟨h1, h2⟩ := List.nodup_cons.mp hd
    have hx := hs x List.mem_cons_self
    have ih := nd_le (l := r) (m := m.erase x) h2 fun y hy => by
      have hne : y ≠ x := fun z => h1 (z ▸ hy)
      exact (List.mem_erase_of_ne hne).mpr (hs y (List.mem_cons_of_mem _ hy))
    rw [List.length_erase_of_mem hx] at ih
    have := List.length_pos_of_mem hx
    rw [List.length_cons]
    omega
theorem nd_eq {l m : List Int} (h1 : l.Nodup) (h2 : m.Nodup) (h : ∀ x, x ∈ l ↔ x ∈ m) : l.length = m.length :=
  Nat.le_antisymm (nd_le h1 fun x hx => (h x).mp hx) (nd_le h2 fun x hx => (h x).mpr hx)
/-- labels, two of them made one -/
def mrg (a b x : Int) : Int := if x = a ∨ x = b then min a b else x
theorem nub_same (a : Int) (hs : List Int) : (nub (hs.map (mrg a a))).length = (nub hs).length := by
  have e : hs.map (mrg a a) = hs := by
    conv => rhs; rw [← List.map_id hs]
    apply List.map_congr_left
    intro x _
    unfold mrg
    split
    · rename_i h
      rcases h with rfl | rfl <;> simp
    · rfl
  rw [e]
theorem nub_less {a b : Int} {hs : List Int} (ha : a ∈ hs) (hb : b ∈ hs) (h : a ≠ b) : (nub (hs.map (mrg a b))).length + 1 = (nub hs).length := by
  have hmax : max a b ∈ nub hs := (mem_nub _ _).mpr (by
    rcases Int.le_total a b with z | z
    · rw [Int.max_eq_right z]; exact hb
    · rw [Int.max_eq_left z]; exact ha)
  have hl : ((nub hs).erase (max a b)).length + 1 = (nub hs).length := by
    rw [List.length_erase_of_mem hmax]
    have := List.length_pos_of_mem hmax
    omega
  rw [← hl]
  congr 1
  refine nd_eq (nub_nd _) ((nub_nd hs).erase _) fun x => ?_
  rw [mem_nub, List.mem_map, (nub_nd hs).mem_erase_iff, mem_nub]
  constructor
  · rintro ⟨y, hy, rfl⟩
    unfold mrg
    split
    · refine ⟨by omega, ?_⟩
      rcases Int.le_total a b with z | z
      · rw [Int.min_eq_left z]; exact ha
      · rw [Int.min_eq_right z]; exact hb
    · rename_i hn
      exact ⟨by omega, hy⟩
  · rintro ⟨h1, h2⟩
    by_cases hx : x = a ∨ x = b
    · refine ⟨x, h2, ?_⟩
      unfold mrg
      rw [if_pos hx]
      omega
    · refine ⟨x, h2, ?_⟩
      unfold mrg
      rw [if_neg hx]
end FF
namespace FF
open PySem PySem.Spec PyProof.Rows L2
variable [LT]
def rstep (r : Int → Int) (t : Int × Int) : Int → Int := fun x => if r x = r t.2 then r t.1 else r x
def ringlessF : (Int → Int) → List (Int × Int) → Bool
  | _, [] => true
  | r, t :: ts => if r t.1 = r t.2 then false else ringlessF (rstep r t) ts
def hat (hs : List Int) (x : Int) : Int := hs.getD x.toNat 0
def hstep (hs : List Int) (t : Int × Int) : List Int := hs.map (mrg (hat hs t.1) (hat hs t.2))
def headsF (hs : List Int) (ts : List (Int × Int)) : List Int := ts.foldl hstep hs
structure Ker (n : Int) (r : Int → Int) (hs : List Int) : Prop where
  len : (hs.length : Int) = n
  ker : ∀ x y, 0 ≤ x → x < n → 0 ≤ y → y < n → (r x = r y ↔ hat hs x = hat hs y)
theorem hat_map {hs : List Int} {f : Int → Int} {x : Int} (h0 : 0 ≤ x) (h1 : x < hs.length) : hat (hs.map f) x = f (hat hs x) := by
  have hx : x.toNat < hs.length := by omega
  unfold hat
  rw [List.getD_eq_getElem?_getD, List.getD_eq_getElem?_getD, List.getElem?_map, List.getElem?_eq_getElem hx]
  rfl
theorem hat_mem {hs : List Int} {x : Int} (h0 : 0 ≤ x) (h1 : x < hs.length) : hat hs x ∈ hs := by
  have hx : x.toNat < hs.length := by omega
  unfold hat
  rw [List.getD_eq_getElem?_getD, List.getElem?_eq_getElem hx]
  exact List.getElem_mem hx
theorem Ker.step {n : Int} {r : Int → Int} {hs : List Int} (k : Ker n r hs) {t : Int × Int} (h : 0 ≤ t.1 ∧ t.1 < t.2 ∧ t.2 < n) : Ker n (rstep r t) (hstep hs t) := by
  have hl := k.len
  refine ⟨by unfold hstep; rw [List.length_map]; exact hl, fun x y x0 x1 y0 y1 => ?_⟩
  unfold hstep
  rw [hat_map x0 (by omega), hat_map y0 (by omega)]
  have a1 := k.ker x y x0 x1 y0 y1
  have a2 := k.ker x t.1 x0 x1 h.1 (by omega)
  have a3 := k.ker x t.2 x0 x1 (by omega) h.2.2
  have a4 := k.ker y t.1 y0 y1 h.1 (by omega)
  have a5 := k.ker y t.2 y0 y1 (by omega) h.2.2
  have a6 := k.ker t.1 t.2 h.1 (by omega) (by omega) h.2.2
  unfold rstep mrg
  generalize r x = rx at *
  generalize r y = ry at *
  generalize r t.1 = ra at *
  generalize r t.2 = rb at *
  generalize hat hs x = hx at *
  generalize hat hs y = hy at *
  generalize hat hs t.1 = ha at *
  generalize hat hs t.2 = hb at *
  split <;> split <;> split <;> split <;> omega
theorem nub_step {n : Int} {r : Int → Int} {hs : List Int} (k : Ker n r hs) {t : Int × Int} (h : 0 ≤ t.1 ∧ t.1 < t.2 ∧ t.2 < n) :
    (r t.1 = r t.2 → (nub (hstep hs t)).length = (nub hs).length) ∧ (r t.1 ≠ r t.2 → (nub (hstep hs t)).length + 1 = (nub hs).length) := by
  have hl := k.len
  have e := k.ker t.1 t.2 h.1 (by omega) (by omega) h.2.2
  refine ⟨fun z => ?_, fun z => ?_⟩
  · unfold hstep
    rw [← e.mp z]
    exact nub_same _ _
  · unfold hstep
    exact nub_less (hat_mem h.1 (by omega)) (hat_mem (by omega) (by omega)) fun q => z (e.mpr q)
theorem forest_count {n : Int} : ∀ (ts : List (Int × Int)) (r : Int → Int) (hs : List Int), Ker n r hs → TOk n ts →
    (nub hs).length ≤ ts.length + (nub (headsF hs ts)).length ∧ (ringlessF r ts = true ↔ ts.length + (nub (headsF hs ts)).length = (nub hs).length)
  | [], r, hs, _, _ => by
    refine ⟨by simp [headsF], ?_⟩
    simp [headsF, ringlessF]
  | t :: ts, r, hs, k, hok => by
    have ht := hok t List.mem_cons_self
    obtain ⟨i1, i2⟩ := forest_count ts (rstep r t) (hstep hs t) (k.step ht) fun x hx => hok x (List.mem_cons_of_mem _ hx)
    obtain ⟨s1, s2⟩ := nub_step k ht
    have e : headsF hs (t :: ts) = headsF (hstep hs t) ts := rfl
    rw [e, List.length_cons]
    unfold ringlessF
    by_cases z : r t.1 = r t.2
    · have := s1 z
      rw [if_pos z]
      refine ⟨by omega, ?_⟩
      constructor
      · intro q; cases q
      · intro q; omega
    · have := s2 z
      rw [if_neg z]
      refine ⟨by omega, ?_⟩
      rw [i2]
      omega
def upTo (n : Int) : List Int := (List.range n.toNat).map fun (i : Nat) => (i : Int)
theorem upTo_length (n : Int) : (upTo n).length = n.toNat := by unfold upTo; rw [List.length_map, List.length_range]
theorem upTo_nd (n : Int) : (upTo n).Nodup := by
  unfold upTo
  rw [List.nodup_iff_pairwise_ne, List.pairwise_map]
  exact List.pairwise_lt_range.imp fun h => by omega
theorem upTo_nub (n : Int) : (nub (upTo n)).length = n.toNat := by
  rw [← upTo_length n]
  exact nd_eq (nub_nd _) (upTo_nd n) fun x => mem_nub _ x
theorem hat_upTo {n x : Int} (h0 : 0 ≤ x) (h1 : x < n) : hat (upTo n) x = x := by
  have hx : x.toNat < (upTo n).length := by rw [upTo_length]; omega
  unfold hat
  rw [List.getD_eq_getElem?_getD, List.getElem?_eq_getElem hx]
  simp only [upTo, List.getElem_map, List.getElem_range, Option.getD_some]
  omega
theorem Ker.start {n : Int} (h : 0 ≤ n) : Ker n (fun x => x) (upTo n) := ⟨by rw [upTo_length]; omega, fun x y x0 x1 y0 y1 => by rw [hat_upTo x0 x1, hat_upTo y0 y1]⟩
theorem forest_iff {n : Int} (h : 0 ≤ n) {ts : List (Int × Int)} (ok : TOk n ts) : ringlessF (fun x => x) ts = decide (((ts.length : Int) + ((nub (headsF (upTo n) ts)).length : Int)) = n) := by
  have q := (forest_count ts _ _ (Ker.start h) ok).2
  rw [upTo_nub] at q
  by_cases z : ringlessF (fun x => x) ts = true
  · rw [z]
    have := q.mp z
    exact (decide_eq_true (by omega)).symm
  · rw [Bool.eq_false_iff.mpr z]
    refine (decide_eq_false fun e => z (q.mpr (by omega))).symm
end FF
namespace FF
open PySem PySem.Spec PyProof.Rows L2
variable [LT]
/-! ### leaders: each point leads to one nearer to its root -/
structure UF (n : Int) (ls : List Int) (r : Int → Int) (d : Int → Nat) : Prop where
  len : (ls.length : Int) = n
  rng : ∀ x, 0 ≤ x → x < n → 0 ≤ hat ls x ∧ hat ls x < n
  root : ∀ x, 0 ≤ x → x < n → r (hat ls x) = r x
  top : ∀ x, 0 ≤ x → x < n → hat ls x = x → r x = x
  down : ∀ x, 0 ≤ x → x < n → hat ls x ≠ x → d (hat ls x) < d x
  rr : ∀ x, 0 ≤ x → x < n → 0 ≤ r x ∧ r x < n ∧ hat ls (r x) = r x
theorem hat_set {ls : List Int} {i v x : Int} (h0 : 0 ≤ i) (h1 : i < ls.length) (x0 : 0 ≤ x) : hat (ls.set i.toNat v) x = if x = i then v else hat ls x := by
  unfold hat
  rw [List.getD_eq_getElem?_getD, List.getD_eq_getElem?_getD, List.getElem?_set]
  by_cases e : x = i
  · subst e
    rw [if_pos rfl, if_pos rfl, if_pos (by omega)]
    rfl
  · rw [if_neg e, if_neg (by omega)]
/-- halving the way -/
theorem UF.half {n : Int} {ls : List Int} {r : Int → Int} {d : Int → Nat} (u : UF n ls r d) {x : Int} (x0 : 0 ≤ x) (x1 : x < n) (hne : hat ls x ≠ x) : UF n (ls.set x.toNat (hat ls (hat ls x))) r d := by
  have hl := u.len
  obtain ⟨y0, y1⟩ := u.rng x x0 x1
  obtain ⟨z0, z1⟩ := u.rng _ y0 y1
  have hs : ∀ y, 0 ≤ y → hat (ls.set x.toNat (hat ls (hat ls x))) y = if y = x then hat ls (hat ls x) else hat ls y := fun y h => hat_set x0 (by omega) h
  have hrz : r (hat ls (hat ls x)) = r x := (u.root _ y0 y1).trans (u.root x x0 x1)
  have hdd : d (hat ls (hat ls x)) < d x := by
    have h1 := u.down x x0 x1 hne
    by_cases e : hat ls (hat ls x) = hat ls x
    · rw [e]; exact h1
    · have := u.down _ y0 y1 e
      omega
  refine ⟨by rw [List.length_set]; exact hl, fun y h0 h1 => ?_, fun y h0 h1 => ?_, fun y h0 h1 => ?_, fun y h0 h1 => ?_, fun y h0 h1 => ?_⟩
  · rw [hs y h0]
    split
    · exact ⟨z0, z1⟩
    · exact u.rng y h0 h1
  · rw [hs y h0]
    split
    · rename_i e
      rw [e]; exact hrz
    · exact u.root y h0 h1
  · rw [hs y h0]
    split
    · rename_i e
      intro q
      rw [e] at q
      rw [q] at hdd
      exact absurd hdd (Nat.lt_irrefl _)
    · exact u.top y h0 h1
  · rw [hs y h0]
    split
    · rename_i e
      rw [e]
      intro _
      exact hdd
    · exact u.down y h0 h1
  · obtain ⟨a0, a1, a2⟩ := u.rr y h0 h1
    refine ⟨a0, a1, ?_⟩
    rw [hs _ a0]
    split
    · rename_i e
      rw [e] at a2
      exact absurd a2 hne
    · exact a2
/-- two roots made one: b's under a's -/
theorem UF.join {n : Int} {ls : List Int} {r : Int → Int} {d : Int → Nat} (u : UF n ls r d) {a b : Int} (a0 : 0 ≤ a) (a1 : a < n) (b0 : 0 ≤ b) (b1 : b < n) : ∃ d', UF n (ls.set (r b).toNat (r a)) (rstep r (a, b)) d' := by
  have hl := u.len
  obtain ⟨p0, p1, p2⟩ := u.rr a a0 a1
  obtain ⟨q0, q1, q2⟩ := u.rr b b0 b1
  have rra : r (r a) = r a := u.top _ p0 p1 p2
  have rrb : r (r b) = r b := u.top _ q0 q1 q2
  have hs : ∀ y, 0 ≤ y → hat (ls.set (r b).toNat (r a)) y = if y = r b then r a else hat ls y := fun y h => hat_set q0 (by omega) h
  by_cases same : r a = r b
  · -- nothing changes
    have hh : ∀ y, 0 ≤ y → hat (ls.set (r b).toNat (r a)) y = hat ls y := fun y h => by
      rw [hs y h]
      split
      · rename_i e
        rw [e, q2, same]
      · rfl
    have hr : rstep r (a, b) = r := by
      funext y
      unfold rstep
      split
      · rename_i e
        rw [e]; exact same
      · rfl
    rw [hr]
    exact ⟨d, by rw [List.length_set]; exact hl, fun y h0 h1 => by rw [hh y h0]; exact u.rng y h0 h1, fun y h0 h1 => by rw [hh y h0]; exact u.root y h0 h1, fun y h0 h1 => by rw [hh y h0]; exact u.top y h0 h1, fun y h0 h1 => by rw [hh y h0]; exact u.down y h0 h1, fun y h0 h1 => by
      obtain ⟨x0, x1, x2⟩ := u.rr y h0 h1
      exact ⟨x0, x1, by rw [hh _ x0]; exact x2⟩⟩
  · refine ⟨fun y => if r y = r b then d y + d (r a) + 1 else d y, by rw [List.length_set]; exact hl, fun y h0 h1 => ?_, fun y h0 h1 => ?_, fun y h0 h1 => ?_, fun y h0 h1 => ?_, fun y h0 h1 => ?_⟩
    · rw [hs y h0]
      split
      · exact ⟨p0, p1⟩
      · exact u.rng y h0 h1
    · rw [hs y h0]
      have ry := u.root y h0 h1
      unfold rstep
      show (if r (if y = r b then r a else hat ls y) = r b then r a else r (if y = r b then r a else hat ls y)) = if r y = r b then r a else r y
      split
      · rename_i e
        rw [e, rra, rrb, if_neg same, if_pos rfl]
      · rw [ry]
    · rw [hs y h0]
      split
      · rename_i e
        intro q
        exact absurd (q.trans e) same
      · rename_i e
        intro q
        have := u.top y h0 h1 q
        unfold rstep
        show (if r y = r b then r a else r y) = y
        rw [this, if_neg e]
    · rw [hs y h0]
      have ry := u.root y h0 h1
      split
      · rename_i e
        intro _
        show (if r (r a) = r b then d (r a) + d (r a) + 1 else d (r a)) < if r y = r b then d y + d (r a) + 1 else d y
        rw [rra, if_neg same, e, rrb, if_pos rfl]
        omega
      · rename_i e
        intro q
        have := u.down y h0 h1 q
        show (if r (hat ls y) = r b then d (hat ls y) + d (r a) + 1 else d (hat ls y)) < if r y = r b then d y + d (r a) + 1 else d y
        rw [ry]
        split <;> omega
    · obtain ⟨x0, x1, x2⟩ := u.rr y h0 h1
      unfold rstep
      show 0 ≤ (if r y = r b then r a else r y) ∧ (if r y = r b then r a else r y) < n ∧ hat (ls.set (r b).toNat (r a)) (if r y = r b then r a else r y) = if r y = r b then r a else r y
      split
      · refine ⟨p0, p1, ?_⟩
        rw [hs _ p0, if_neg same]
        exact p2
      · rename_i e
        refine ⟨x0, x1, ?_⟩
        rw [hs _ x0, if_neg e]
        exact x2
theorem UF.start {n : Int} (h : 0 ≤ n) : UF n (upTo n) (fun x => x) (fun _ => 0) :=
  ⟨by rw [upTo_length]; omega, fun x h0 h1 => by rw [hat_upTo h0 h1]; exact ⟨h0, h1⟩, fun x h0 h1 => by rw [hat_upTo h0 h1], fun x _ _ _ => rfl, fun x h0 h1 q => absurd (hat_upTo h0 h1) q, fun x h0 h1 => ⟨h0, h1, hat_upTo h0 h1⟩⟩
theorem hat_at {ls : List Int} {x : Int} (h0 : 0 ≤ x) (h1 : x < ls.length) : atI (ls.map V.int) x = some (.int (hat ls x)) := by
  obtain ⟨v, _, hv, e⟩ := at_int h0 h1
  rw [e]
  unfold hat
  rw [List.getD_eq_getElem?_getD, hv]
  rfl
end FF
namespace FF
open PySem PySem.Spec PyProof.Rows L2
variable [LT]
/-! ### ties picked by their numbers -/
def pick (ts : List (Int × Int)) (ms : List Int) : List (Int × Int) := ms.map fun m => ts.getD m.toNat (0, 0)
theorem pick_append (ts : List (Int × Int)) (ms ks : List Int) : pick ts (ms ++ ks) = pick ts ms ++ pick ts ks := List.map_append
theorem pick_length (ts : List (Int × Int)) (ms : List Int) : (pick ts ms).length = ms.length := List.length_map ..
theorem getD_at {ts : List (Int × Int)} {m : Int} (h0 : 0 ≤ m) (h1 : m < ts.length) : ts[m.toNat]? = some (ts.getD m.toNat (0, 0)) := by
  have hx : m.toNat < ts.length := by omega
  rw [List.getD_eq_getElem?_getD, List.getElem?_eq_getElem hx]
  rfl
/-- the k-th of some ties, with its object -/
theorem Ties.at_ {H : Hp} {rs : List V} {ts : List (Int × Int)} (h : Ties H rs ts) {m : Int} (h0 : 0 ≤ m) (h1 : m < ts.length) : ∃ q, atI rs m = some (.ref q) ∧ H q = some (.tup [.int (ts.getD m.toNat (0, 0)).1, .int (ts.getD m.toNat (0, 0)).2]) := by
  have hx : m.toNat < rs.length := by rw [h.length]; omega
  obtain ⟨t, q, e1, e2, e3⟩ := h.get (List.getElem?_eq_getElem hx)
  rw [getD_at h0 h1] at e1
  cases e1
  refine ⟨q, ?_, e3⟩
  have e : ((m.toNat : Nat) : Int) = m := by omega
  have z := atI_nat (xs := rs) (j := m.toNat) ((List.getElem?_eq_getElem hx).trans (congrArg some e2))
  rw [e] at z
  exact z
def foldR (r : Int → Int) (ts : List (Int × Int)) : Int → Int := ts.foldl rstep r
theorem ringlessF_split : ∀ (us : List (Int × Int)) (r : Int → Int) (ws : List (Int × Int)), ringlessF r us = true → ringlessF r (us ++ ws) = ringlessF (foldR r us) ws
  | [], _, _, _ => rfl
  | t :: us, r, ws, h => by
    unfold ringlessF at h
    by_cases e : r t.1 = r t.2
    · rw [if_pos e] at h
      cases h
    · rw [if_neg e] at h
      show (if r t.1 = r t.2 then false else ringlessF (rstep r t) (us ++ ws)) = _
      rw [if_neg e]
      exact ringlessF_split us _ ws h
theorem ringlessF_bad : ∀ (us : List (Int × Int)) (r : Int → Int) (ws : List (Int × Int)), ringlessF r us = false → ringlessF r (us ++ ws) = false
  | [], _, _, h => by cases h
  | t :: us, r, ws, h => by
    unfold ringlessF at h
    by_cases e : r t.1 = r t.2
    · show (if r t.1 = r t.2 then false else ringlessF (rstep r t) (us ++ ws)) = _
      rw [if_pos e]
    · rw [if_neg e] at h
      show (if r t.1 = r t.2 then false else ringlessF (rstep r t) (us ++ ws)) = _
      rw [if_neg e]
      exact ringlessF_bad us _ ws h
theorem foldR_snoc (r : Int → Int) (us : List (Int × Int)) (t : Int × Int) : foldR r (us ++ [t]) = rstep (foldR r us) t := by
  unfold foldR
  rw [List.foldl_append]
  rfl
/-- one tie more -/
theorem ringlessF_more {us : List (Int × Int)} {r : Int → Int} (h : ringlessF r us = true) (t : Int × Int) : ringlessF r (us ++ [t]) = !decide (foldR r us t.1 = foldR r us t.2) := by
  rw [ringlessF_split us r _ h]
  show (if foldR r us t.1 = foldR r us t.2 then false else true) = _
  by_cases e : foldR r us t.1 = foldR r us t.2
  · rw [if_pos e, decide_eq_true e]
    rfl
  · rw [if_neg e, decide_eq_false e]
    rfl
theorem headsF_snoc (hs : List Int) (us : List (Int × Int)) (t : Int × Int) : headsF hs (us ++ [t]) = hstep (headsF hs us) t := by
  unfold headsF
  rw [List.foldl_append]
  rfl
theorem headsF_length (hs : List Int) : ∀ ts : List (Int × Int), (headsF hs ts).length = hs.length := fun ts => by
  induction ts generalizing hs with
  | nil => rfl
  | cons t ts ih =>
    show (headsF (hstep hs t) ts).length = _
    rw [ih]
    unfold hstep
    rw [List.length_map]
/-! ### rings -/
theorem upd_id {H : Hp} {a : Addr} {o : HO} (h : H a = some o) : upd H a o = H := by
  funext b
  by_cases e : b = a
  · rw [e, upd_same, h]
  · rw [upd_ne e]
theorem rgV_up (n : Int) : rgV 0 n = (upTo n).map V.int := rgV_ints n
theorem decide_int (a b : Int) : decide (V.int a = V.int b) = decide (a = b) := by
  by_cases z : a = b
  · rw [decide_eq_true z, decide_eq_true (congrArg V.int z)]
  · rw [decide_eq_false z, decide_eq_false fun h => z (V.int.inj h)]
theorem take_next {α : Type} {xs : List α} {i : Nat} {x : α} (h : xs[i]? = some x) : xs.take (i + 1) = xs.take i ++ [x] := by
  rw [List.take_add_one, h]
  rfl
theorem take_rest {α : Type} {xs : List α} {i : Nat} {x : α} (h : xs[i]? = some x) : xs = xs.take i ++ [x] ++ xs.drop (i + 1) := by
  rw [← take_next h, List.take_append_drop]
theorem Kx.put {S : Addr → Prop} {H H1 : Hp} {p : Addr} {o : HO} (k : Kx S H H1) (h : H p = none) : Kx S H (upd H1 p o) := k.over h
/-- ties picked from the row of a web -/
theorem Ties.pick1 {H : Hp} {ts : List (Int × Int)} {qs : List V} {ms : List Int} {m : Int} {q : Addr} (h : Ties H qs (pick ts ms)) (hq : H q = some (.tup [.int (ts.getD m.toNat (0, 0)).1, .int (ts.getD m.toNat (0, 0)).2])) : Ties H (qs ++ [.ref q]) (pick ts (ms ++ [m])) := by
  rw [pick_append]
  exact h.append (Ties.one hq)
theorem upTo_snoc (n : Nat) : upTo ((n : Int) + 1) = upTo n ++ [(n : Int)] := by
  unfold upTo
  rw [show ((n : Int) + 1).toNat = n + 1 by omega, show ((n : Int)).toNat = n by omega, List.range_succ, List.map_append]
  rfl
theorem mem_upTo {n x : Int} (h : x ∈ upTo n) : 0 ≤ x ∧ x < n := by
  unfold upTo at h
  obtain ⟨j, hj, rfl⟩ := List.mem_map.mp h
  have := List.mem_range.mp hj
  omega
def but (g : Int) (ms : List Int) : List Int := ms.filter fun i => !decide (i = g)
/-! ### rows of ties' numbers -/
def IsRow (H : Hp) (m : Nat) (x : V) : Prop := ∃ (a : Addr) (ms : List Int), x = .ref a ∧ H a = some (.tup (ms.map V.int)) ∧ ms.length ≤ 1000 ∧ ∀ y ∈ ms, 0 ≤ y ∧ y < (m : Int)
theorem IsRow.mono {H H' : Hp} {m : Nat} {x : V} (h : IsRow H m x) (k : ∀ q xs, H q = some (.tup xs) → H' q = some (.tup xs)) : IsRow H' m x := by
  obtain ⟨a, ms, e, h1, h2⟩ := h
  exact ⟨a, ms, e, k _ _ h1, h2⟩
theorem IsRow.ke {H H' : Hp} {m : Nat} {x : V} (h : IsRow H m x) (k : Ke H H') : IsRow H' m x := h.mono fun _ _ => k.tup
theorem IsRow.dk {H H' : Hp} {p : Addr} {m : Nat} {x : V} (h : IsRow H m x) (k : Dk p H H') (d : Deck H p) : IsRow H' m x := h.mono fun _ _ => k.tup d
theorem IsRow.new {H : Hp} {p : Addr} {o : HO} {m : Nat} {x : V} (h : IsRow H m x) (k : H p = none) : IsRow (upd H p o) m x := h.mono fun _ _ => tup_new k
theorem IsRow.put {H : Hp} {p : Addr} {o : HO} {ys : List V} {m : Nat} {x : V} (h : IsRow H m x) (k : H p = some (.lst ys)) : IsRow (upd H p o) m x := h.mono fun q xs e => by rw [upd_ne (ne_of e k (fun z => nomatch z))]; exact e
structure Rows (H : Hp) (m : Nat) (xs : List V) : Prop where
  all : ∀ x ∈ xs, IsRow H m x
theorem Rows.nil {H : Hp} {m : Nat} : Rows H m [] := ⟨fun _ z => nomatch z⟩
theorem Rows.app {H : Hp} {m : Nat} {xs ys : List V} (a : Rows H m xs) (b : Rows H m ys) : Rows H m (xs ++ ys) := ⟨fun x hx => (List.mem_append.mp hx).elim (a.all x) (b.all x)⟩
theorem Rows.one {H : Hp} {m : Nat} {x : V} (a : IsRow H m x) : Rows H m [x] := ⟨fun y hy => by rw [List.mem_singleton.mp hy]; exact a⟩
theorem Rows.ke {H H' : Hp} {m : Nat} {xs : List V} (h : Rows H m xs) (k : Ke H H') : Rows H' m xs := ⟨fun x hx => (h.all x hx).ke k⟩
theorem Rows.dk {H H' : Hp} {p : Addr} {m : Nat} {xs : List V} (h : Rows H m xs) (k : Dk p H H') (d : Deck H p) : Rows H' m xs := ⟨fun x hx => (h.all x hx).dk k d⟩
theorem Rows.new {H : Hp} {p : Addr} {o : HO} {m : Nat} {xs : List V} (h : Rows H m xs) (k : H p = none) : Rows (upd H p o) m xs := ⟨fun x hx => (h.all x hx).new k⟩
theorem Rows.put {H : Hp} {p : Addr} {o : HO} {ys : List V} {m : Nat} {xs : List V} (h : Rows H m xs) (k : H p = some (.lst ys)) : Rows (upd H p o) m xs := ⟨fun x hx => (h.all x hx).put k⟩
theorem Rows.take {H : Hp} {m n : Nat} {xs : List V} (h : Rows H m xs) : Rows H m (xs.take n) := ⟨fun x hx => h.all x (List.mem_of_mem_take hx)⟩
end FF
namespace FF
open PySem PySem.Spec PyProof.Rows L2
variable [LT]
/-! ### enumerate of a tuple -/
section
variable {P : Program} {w : World} {A : Around} {E : Value → Shared → Prop} {s : Shared}
theorem drawsTup (calm : A.handled = none) (j t : Addr) (far : t ≠ j) (vs : Array Value) : Draws P w A j [j, t] vs.size (fun k v => vs[k]? = some v) (fun k h => h.IsTupleIter j t k ∧ h.IsTuple t vs) where
  live _ _ z := by
    obtain ⟨⟨o, ho, _⟩, _⟩ := z
    exact ⟨o, ho⟩
  frame _ _ _ z k := by
    obtain ⟨⟨o1, a1, r1⟩, o2, a2, r2⟩ := z
    exact ⟨⟨o1, k j List.mem_cons_self o1 a1, r1⟩, o2, k t (List.mem_cons_of_mem _ List.mem_cons_self) o2 a2, r2⟩
  item k u Q F hk z fin := RZ.nextOf_tuple_item z.1 z.2 (x := vs[k]) (Array.getElem?_eq_getElem hk) fun h2 a1 a2 => fin _ h2 u.toks (Array.getElem?_eq_getElem hk) ⟨a1, z.2.extBut a2.extBut far⟩ a2
  done u Q F z fin := RZ.nextOf_tuple_end calm z.1 z.2 (by simp) fin
/-- nothing is left -/
theorem drawnOut (calm : A.handled = none) (j t : Addr) (vs : Array Value) (i : Nat) (hn : vs[i]? = none) : Draws P w A j [j, t] i (fun _ _ => False) (fun k h => k = i ∧ h.IsTupleIter j t i ∧ h.IsTuple t vs) where
  live _ _ z := by
    obtain ⟨_, ⟨o, ho, _⟩, _⟩ := z
    exact ⟨o, ho⟩
  frame _ _ _ z k := by
    obtain ⟨e, ⟨o1, a1, r1⟩, o2, a2, r2⟩ := z
    exact ⟨e, ⟨o1, k j List.mem_cons_self o1 a1, r1⟩, o2, k t (List.mem_cons_of_mem _ List.mem_cons_self) o2 a2, r2⟩
  item k u Q F hk z fin := absurd z.1 (Nat.ne_of_lt hk)
  done u Q F z fin := RZ.nextOf_tuple_end calm z.2.1 z.2.2 hn fin
abbrev itObj (t : Addr) : Obj := { cls := .type "tuple_iterator", data := .fields #[.ref t, .int 0 0] }
abbrev enObj (j : Addr) : Obj :=
  { cls := .type "enumerate",
    data := .fields #[.none, .bool false, .ref j, rawInt 0, .none, .none] }
set_option maxHeartbeats 1000000 in
theorem enumMadeT (t : Addr) (vs : Array Value) (k : Nat) (dd : Option Addr) (ss : Array (Option Value)) : Meets (Builtin.«enumerate.__new__» ⟨[.type "enumerate", .ref t], []⟩) (fun _ R s =>
      s.heap.get? t = some { cls := .type "tuple", dict := dd, data := .seq vs k, slots := ss } ∧
      R (.ok (.ret (.ref (s.heap.push (itObj t)).objs.size))) { s with heap := (s.heap.push (itObj t)).push (enObj s.heap.objs.size) }) :=
  .of_wp fun P w A R s h => by
    obtain ⟨h0, g0, d0, t0, s0⟩ := s
    obtain ⟨ht, h⟩ := h
    have isub := sub_enumerate
    have hT : Heap.IsTuple (Shared.heap ⟨h0, g0, d0, t0, s0⟩) t vs := ⟨_, ht, rfl, k, rfl⟩
    wp_walk using wpAny_loadPart' ht
    refine wpAny_stack_any fun _ => wpAny_pure ?_
    split
    · rename_i cc _ _ _ _ _
      cases (cc == Value.type "enumerate")
      · wp_walk using wpAny_loadPart' ht, wpAny_pyIter_tuple hT
        exact ⟨_, rfl, h⟩
      · wp_walk using wpAny_loadPart' ht, wpAny_pyIter_tuple hT
        exact ⟨_, rfl, h⟩
    · wp_walk using wpAny_loadPart' ht, wpAny_pyIter_tuple hT
      exact ⟨_, rfl, h⟩
theorem callEnumT {t : Addr} {vs : Array Value} {Q : Value → Shared → Prop} (hT : s.heap.IsTuple t vs)
    (fin : ∀ h2, IsEnum h2 (s.heap.objs.size + 1) s.heap.objs.size 0 .none → h2.IsTupleIter s.heap.objs.size t 0 → (∀ b o, s.heap.get? b = some o → h2.get? b = some o) →
      Q (.ref (s.heap.objs.size + 1)) { s with heap := h2 }) : wpAny (model P w) A (call (.type "enumerate") [.ref t]) Q E s := by
  obtain ⟨⟨c1, c2, c3, c4⟩, ht, e1, k, e2⟩ := hT
  have e1 : c1 = .type "tuple" := e1
  have e2 : c3 = .seq vs k := e2
  subst e1 e2
  refine callType_new F.called_enumerate (by decide) (F.typeCall_enumerate_1 _) (F.newCall_enumerate_1 _) (fun z => F.args_object_init_2 z _)
    F.entry_enumerate_new (enumMadeT t vs k c2 c4) ⟨ht, ?_⟩
  have size1 : (s.heap.push (itObj t)).objs.size = s.heap.objs.size + 1 := Heap.size_push ..
  show _ ∧ _
  rw [size1]
  have he : IsEnum ((s.heap.push (itObj t)).push (enObj s.heap.objs.size)) (s.heap.objs.size + 1) s.heap.objs.size 0 .none := by
    have z := Heap.get?_push_size (s.heap.push (itObj t)) (o := enObj s.heap.objs.size) rfl
    rw [size1] at z
    exact z
  exact ⟨⟨_, he, rfl⟩, fin _ he ⟨_, Heap.get?_push_of_some _ (Heap.get?_push_size _ rfl), rfl, rfl⟩ fun b o z => Heap.get?_push_of_some _ (Heap.get?_push_of_some _ z)⟩
end
/-- the tuple at a, each item in a new pair behind its number -/
def IteT (K : PySem.W.Frag) (a : Addr) : It where
  go i H := ∃ (xs : List V) (x : V), SqT K H a xs ∧ xs[i]? = some x
  yld i H v H' := ∃ t x, v = .ref t ∧ H t = none ∧ H' = upd H t (.tup [.int (i : Nat), x]) ∧ ∀ xs, SqT K H a xs → xs[i]? = some x
  stop i H := ∃ xs : List V, SqT K H a xs ∧ xs.length ≤ i
theorem turnEnumT {P : Program} {w : World} {K : PySem.W.Frag} {elts : List Expr} {kk : Nat} {tpos : Pos} (a e j : Addr) :
    Turn P w K (.Tuple elts kk tpos) (IteT K a) [e, j] e (fun i h => (∃ v, IsEnum h e j ((i : Nat) : Int) v) ∧ h.IsTupleIter j a i ∧ e ≠ j) where
  mem := List.mem_cons_self
  obj := by
    intro i h st b hb
    obtain ⟨⟨v, he⟩, ⟨o, ho, hc, hd⟩, _⟩ := st
    rcases List.mem_cons.mp hb with rfl | hb
    · exact ⟨_, he, fun _ z => nomatch z⟩
    · rw [List.mem_singleton.mp hb]
      exact ⟨o, ho, fun _ z => by rw [hd] at z; cases z⟩
  keep := by
    intro i h h' st k
    obtain ⟨⟨v, he⟩, ⟨o, ho, r⟩, far⟩ := st
    exact ⟨⟨v, k e List.mem_cons_self _ he⟩, ⟨o, k j (List.mem_cons_of_mem _ List.mem_cons_self) o ho, r⟩, far⟩
  item := by
    intro X hP hw hK calm i pins s σ H E I hf st hg
    subst hP hw hK
    obtain ⟨⟨v, he⟩, hj, far⟩ := st
    obtain ⟨xs, x, hq, hx⟩ := hg
    obtain ⟨its, rv, hp, _⟩ := I.tuple hq
    obtain ⟨u, hu, ru⟩ := rv.get hx
    have le : e < s.heap.objs.size := Heap.lt_size he
    have lj : j < s.heap.objs.size := by
      obtain ⟨_, z, _⟩ := hj
      exact Heap.lt_size z
    have hne : a ≠ j := by
      intro z
      obtain ⟨o1, a1, b1, _⟩ := hj
      obtain ⟨o2, a2, b2, _⟩ := hp
      rw [z, a1] at a2
      cases a2
      rw [b1] at b2
      exact absurd (Value.type.inj b2) (by decide)
    have hea : e ∉ [j, a] := by
      intro z
      rcases List.mem_cons.mp z with z | z
      · exact far z
      · have z := List.mem_singleton.mp z
        obtain ⟨o2, a2, b2, _⟩ := hp
        rw [← z, he] at a2
        cases a2
        exact absurd (Value.type.inj b2) (by decide)
    have hi : i < its.toArray.size := by
      rw [List.size_toArray]
      exact (List.getElem?_eq_some_iff.mp hu).1
    refine wpAny_pyNext_enum_itemD (drawsTup (A := X.A.in1) (I.ok.hd calm) j a hne its.toArray) he ⟨hj, hp⟩ hi far hea fun y h2 tk hy ho st2 hT2 _ hk => ?_
    have ey : y = u := by
      have hy : its.toArray[i]? = some y := hy
      rw [List.getElem?_toArray, hu] at hy
      exact (Option.some.inj hy).symm
    subst ey
    refine ⟨_, rfl, wpAny_letOwnedTupleGo_enum (s := { s with heap := h2, toks := tk + 1 }) ho fun h3 he3 sb => ?_⟩
    have hT3 : h3.get? s.heap.objs.size = some { cls := .type "tuple", data := .seq #[.int i tk, y] } := (sb.2 _ (Nat.ne_of_gt le)).trans hT2
    have fresh : ObjOk X.prog X.w (upd H s.heap.objs.size (.tup [.int (i : Nat), x])) h3 s.heap.objs.size (.tup [.int (i : Nat), x]) :=
      ⟨by show 2 ≤ sizeLine; decide, [.int i tk, y], .cons ⟨_, rfl⟩ (.cons ru .nil), ⟨_, hT3, rfl, _, rfl⟩⟩
    have I3 : Inv X pins σ (upd H s.heap.objs.size (.tup [.int (i : Nat), x])) { s with heap := h3, toks := tk + 1 } :=
      I.turnedNew (ch := [e, j]) (fun b ob hb z => (sb.2 b (fun r => hb (by simp [r]))).trans (hk b ob (fun r => hb (by simp [r])) (fun r => hb (by simp [r])) z)) hf (Nat.le_refl _) fresh
    refine ⟨.ref s.heap.objs.size, _, I3, rfl, ⟨_, x, rfl, I.hok.fresh (Nat.le_refl _), rfl, fun ys hy => by rw [I.tuple_inj hy hq]; exact hx⟩, ⟨⟨y, ?_⟩, ?_, far⟩, fun b hb => ?_⟩
    · rw [show ((i + 1 : Nat) : Int) = (i : Int) + 1 by omega]
      exact he3
    · obtain ⟨⟨o, z, r⟩, _⟩ := st2
      exact ⟨o, (sb.2 j (Ne.symm far)).trans z, r⟩
    · have lb : b < s.heap.objs.size := by
        rcases List.mem_cons.mp hb with z | z
        · rw [z]; exact le
        · rw [List.mem_singleton.mp z]; exact lj
      rw [upd_ne (Nat.ne_of_lt lb)]
      exact (hf b hb).1
  done := by
    intro X hP hw hK calm i pins s σ H E I hf st hg
    subst hP hw hK
    obtain ⟨⟨v, he⟩, hj, far⟩ := st
    obtain ⟨xs, hq, hx⟩ := hg
    obtain ⟨its, rv, hp, _⟩ := I.tuple hq
    obtain ⟨f0, f1, f2, f3, f4, f5⟩ := hf j (List.mem_cons_of_mem _ List.mem_cons_self)
    have hl := rv.length
    have hn : its.toArray[i]? = none := by
      rw [List.getElem?_toArray]
      exact List.getElem?_eq_none (by omega)
    exact wpAny_pyNext_enum_endD (drawnOut (A := X.A.in1) (I.ok.hd calm) j a its.toArray i hn) he ⟨rfl, hj, hp⟩ fun h2 eb => ⟨rfl, I.turned (t' := s.toks) (fun b o hb z => eb b o hb z) f0 f1 f3 f4 f5⟩
  self := by
    intro A i s Q E st h
    obtain ⟨⟨_, he⟩, _⟩ := st
    exact wpAny_pyIter_enum he h
def iEnumT (K : PySem.W.Frag) (ta : TA) : TI := fun σ H R => ta σ H fun vs G => ∃ a xs, vs = [.ref a] ∧ SqT K G a xs ∧ R (IteT K a) G
theorem pi_enumT {X : Cx} {K : PySem.W.Frag} {e : Expr} {ta : TA} {p1 p2 p3 : Pos} {elts : List Expr} {kk : Nat} (hg : Gl X "enumerate") (hm : X.mg "enumerate" = none) (ha : PA X [e] ta)
    (hK : X.K = K := by rfl) (star : starEach [e] X.env = [(false, eval e X.env)] := by rfl) : PI X (.Tuple elts kk p3) (.Call (.Name "enumerate" p1) [e] [] p2) (iEnumT K ta) := by
  subst hK
  constructor
  intro pins s σ H R I h
  refine Call_ (ld_blt I hg hm boot_enumerate (PyProof.Rows.callWith_type1 (thn (ha.run p2 pins s σ H _ I h) fun us t ⟨vs, G, J, rr, qq⟩ => ?_) star rfl))
  obtain ⟨a, xs, rfl, hq, q⟩ := qq
  cases rr with
  | cons r rr =>
    cases rr
    cases r
    obtain ⟨its, rv, hp, _⟩ := J.tuple hq
    refine callEnumT (show t.heap.IsTuple a its.toArray from hp) fun h2 he hj hk => wpAny_pyIter_enum he ?_
    have J2 : Inv X pins σ G { t with heap := h2 } := J.kept (t' := t.toks) hk
    refine ⟨t.heap.objs.size + 1, [t.heap.objs.size + 1, t.heap.objs.size], _, _, G, rfl, J2, turnEnumT a (t.heap.objs.size + 1) t.heap.objs.size, ⟨⟨.none, he⟩, hj, Nat.succ_ne_self _⟩, fun b hb => ?_, q⟩
    have lb : t.heap.objs.size ≤ b := by
      rcases List.mem_cons.mp hb with z | z
      · rw [z]; exact Nat.le_succ _
      · rw [List.mem_singleton.mp z]; exact Nat.le_refl _
    exact J.fpOk lb (J.hok.fresh lb)
theorem walk_enumT {K : PySem.W.Frag} {a : Addr} {xs : List V} : Walk (IteT K a) xs.length (fun H => SqT K H a xs) (YPair (fun i => some (.int (i : Nat))) (fun i => xs[i]?)) where
  goes i H hi q := ⟨xs, xs[i], q, List.getElem?_eq_getElem hi⟩
  stops H q := ⟨xs, q, Nat.le_refl _⟩
  yields i H v H' _ q y := by
    obtain ⟨t, x, h1, h2, h3, h4⟩ := y
    exact ⟨t, .int (i : Nat), x, h1, h2, h3, rfl, h4 xs q⟩
section
variable {X : Cx}
end
end FF
namespace FF
open PySem PySem.Spec PyProof.Rows L2
variable [LT]
/-! ### what is walked: a list or a tuple -/
section
variable {X : Cx}
def iSeq (K : PySem.W.Frag) (tl : TE) : TI := fun σ H R => tl σ H fun x G => ∃ a xs, x = .ref a ∧ ((SqL K G a xs ∧ R (Itl K a) G) ∨ (SqT K G a xs ∧ R (Itt K a) G))
theorem pi_seq {K : PySem.W.Frag} {tg l : Expr} {tl : TE} (hl : PE X l tl) (hK : X.K = K := by rfl) : PI X tg l (iSeq K tl) := by
  subst hK
  constructor
  intro pins s σ H R I h
  refine thn (hl.run pins s σ H _ I h) fun v t ⟨x, G, J, rx, a, xs, ex, hq⟩ => ?_
  subst ex
  cases rx
  rcases hq with ⟨hq, q⟩ | ⟨hq, q⟩
  · obtain ⟨its, _, p, _⟩ := J.list hq
    exact wpAny_pyIter_list p.isList (pi_one (tk := t.toks) J _ (turn_list a _) ⟨_, Heap.get?_push_size _ rfl, rfl, rfl⟩ q)
  · obtain ⟨its, _, p, _⟩ := J.tuple hq
    exact wpAny_pyIter_tuple (show t.heap.IsTuple a its.toArray from p) (pi_one (tk := t.toks) J _ (turn_tuple a _) ⟨_, Heap.get?_push_size _ rfl, rfl, rfl⟩ q)
end
section
variable {α : Type} {g : TG} {tt : TT} {te : TE} {vs : List Nat} {σ0 : L2.St} {yl : α → V → Hp → (α → Hp → Prop) → Prop} {dn : α → Hp → Prop} {H0 : Hp} {a0 : α} {J : It} {n : Nat} {Gd : Hp → Prop} {Y : Nat → Hp → V → Hp → Prop}
theorem gx_it (w : Walk J n Gd Y) (Pv : Nat → α → Hp → Prop) (h0 : Pv 0 a0 H0) (hG : ∀ i a H, i ≤ n → Pv i a H → Gd H)
    (hs : ∀ (i : Nat) x a H H', i < n → Pv i a H → Y i H x H' → g x σ0 H' fun σ2 H2 => wipe σ2 vs = σ0 ∧ tt σ2 H2 fun b H3 => if b = true then te σ2 H3 fun y H4 => yl a y H4 (Pv (i + 1)) else Pv (i + 1) a H3) (hd : ∀ a H, Pv n a H → dn a H) :
    ∃ W : Nat → Nat → α → Hp → Prop, (∃ m, W 0 m a0 H0) ∧ GxT J g tt te vs σ0 W yl dn := by
  refine ⟨fun i m a H => m = n - i ∧ i ≤ n ∧ Pv i a H, ⟨_, rfl, Nat.zero_le _, h0⟩, ?_⟩
  rintro i m a H ⟨rfl, hi, p⟩
  have ok := hG i a H hi p
  by_cases hlt : i < n
  · exact .inr ⟨w.goes i H hlt ok, Pv (i + 1), fun a' H' p' => ⟨n - (i + 1), by omega, rfl, hlt, p'⟩, fun x H1 y => hs i x a H H1 hlt p (w.yields i H x H1 hlt ok y)⟩
  · have e : i = n := by omega
    subst e
    exact .inl ⟨w.stops H ok, hd a H p⟩
end
section
variable {g : TG} {tt : TT} {te : TE} {vs : List Nat} {σ0 : L2.St} {yl : Unit → V → Hp → (Unit → Hp → Prop) → Prop} {dn : Unit → Hp → Prop} {H0 : Hp} {J : It} {n : Nat} {Gd : Hp → Prop} {Y : Nat → Hp → V → Hp → Prop}
theorem gx_all (w : Walk J n Gd Y) (Pv : Nat → Hp → Prop) (h0 : Pv 0 H0) (hG : ∀ i H, i ≤ n → Pv i H → Gd H)
    (hs : ∀ (i : Nat) x H H', i < n → Pv i H → Y i H x H' → g x σ0 H' fun σ2 H2 => wipe σ2 vs = σ0 ∧ tt σ2 H2 fun b H3 => if b = true then te σ2 H3 fun y H4 => yl () y H4 (fun _ => Pv (i + 1)) else Pv (i + 1) H3) (hd : ∀ H, Pv n H → dn () H) :
    ∃ W : Nat → Nat → Hp → Prop, (∃ m, W 0 m H0) ∧ GxT (α := Unit) J g tt te vs σ0 (fun i m _ H => W i m H) yl dn := by
  obtain ⟨W, ⟨m, hm⟩, hW⟩ := gx_it (a0 := ()) w (fun i _ H => Pv i H) h0 (fun i _ H => hG i H) (fun i x _ H H' => hs i x H H') (fun _ H => hd H)
  exact ⟨fun i m H => W i m () H, ⟨m, hm⟩, hW⟩
end
end FF
namespace FF
open PySem PySem.Spec PyProof.Rows L2
variable [LT]
/-! ### ties by layers -/
def layerOf (ts : List (Int × Int)) (ws : List V) (f : Int) : List (Int × Int) := ((ts.zip ws).filter fun p => decide (p.2 = V.int f)).map Prod.fst
theorem layerOf_snoc {ts : List (Int × Int)} {ws : List V} (h : ts.length = ws.length) (t : Int × Int) (x : V) (f : Int) :
    layerOf (ts ++ [t]) (ws ++ [x]) f = layerOf ts ws f ++ if x = V.int f then [t] else [] := by
  unfold layerOf
  rw [List.zip_append h, List.filter_append, List.map_append]
  congr 1
  show (List.filter (fun p => decide (p.2 = V.int f)) [(t, x)]).map Prod.fst = _
  by_cases e : x = V.int f
  · rw [List.filter_cons_of_pos (p := fun p : (Int × Int) × V => decide (p.2 = V.int f)) (a := (t, x)) (decide_eq_true e), if_pos e]
    rfl
  · rw [List.filter_cons_of_neg (by rw [decide_eq_false e]; decide), if_neg e]
    rfl
theorem layerOf_length (ts : List (Int × Int)) (ws : List V) (f : Int) : (layerOf ts ws f).length ≤ ts.length := by
  unfold layerOf
  rw [List.length_map]
  refine Nat.le_trans (List.length_filter_le _ _) ?_
  rw [List.length_zip]
  omega
theorem layerOf_ok {n : Int} {ts : List (Int × Int)} (ok : TOk n ts) (ws : List V) (f : Int) : TOk n (layerOf ts ws f) := fun t ht => by
  unfold layerOf at ht
  obtain ⟨⟨u, x⟩, hp, rfl⟩ := List.mem_map.mp ht
  exact ok _ (List.of_mem_zip (List.mem_filter.mp hp).1).1
theorem layerOf_none {ts : List (Int × Int)} {ws : List V} {f : Int} (h : ∀ x ∈ ws, x ≠ V.int f) : layerOf ts ws f = [] := by
  unfold layerOf
  rw [List.filter_eq_nil_iff.mpr fun p hp => ?_]
  · rfl
  · obtain ⟨u, x⟩ := p
    rw [decide_eq_false (h x (List.of_mem_zip hp).2)]
    decide
/-! ### first fit -/
def freeB (ts : List (Int × Int)) (ws : List V) (t : Int × Int) (f : Int) : Bool := ringlessF (fun x => x) (layerOf ts ws f ++ [t])
inductive FFat (k : Int) (ts : List (Int × Int)) (ws : List V) (t : Int × Int) : V → Prop where
  | out : (∀ f, 0 ≤ f → f < k → freeB ts ws t f = false) → FFat k ts ws t .non
  | at_ {f : Int} : 0 ≤ f → f < k → freeB ts ws t f = true → (∀ g, 0 ≤ g → g < f → freeB ts ws t g = false) → FFat k ts ws t (.int f)
structure FF (k : Int) (ts : List (Int × Int)) (ws : List V) : Prop where
  len : ws.length = ts.length
  each : ∀ i t x, ts[i]? = some t → ws[i]? = some x → FFat k (ts.take i) (ws.take i) t x
theorem FF.nil {k : Int} : FF k [] [] := ⟨rfl, fun i t x h => by simp at h⟩
theorem FF.snoc {k : Int} {ts : List (Int × Int)} {ws : List V} {t : Int × Int} {x : V} (h : FF k ts ws) (hx : FFat k ts ws t x) : FF k (ts ++ [t]) (ws ++ [x]) := by
  have hl := h.len
  refine ⟨by rw [List.length_append, List.length_append, hl]; rfl, fun i u y hu hy => ?_⟩
  by_cases e : i < ts.length
  · rw [List.getElem?_append_left e] at hu
    rw [List.getElem?_append_left (by omega)] at hy
    rw [List.take_append_of_le_length (by omega), List.take_append_of_le_length (by omega)]
    exact h.each i u y hu hy
  · have hi : i = ts.length := by
      have := (List.getElem?_eq_some_iff.mp hu).1
      rw [List.length_append] at this
      have : i < ts.length + 1 := this
      omega
    subst hi
    rw [List.getElem?_append_right (Nat.le_refl _), Nat.sub_self] at hu
    rw [← hl, List.getElem?_append_right (Nat.le_refl _), Nat.sub_self] at hy
    cases hu
    cases hy
    rw [List.take_left, ← hl, List.take_left]
    exact hx
theorem FF.low {k : Int} {ts : List (Int × Int)} {ws : List V} (h : FF k ts ws) (hne : ∀ t ∈ ts, t.1 ≠ t.2) : ∀ (i : Nat) (f : Int), ws[i]? = some (V.int f) → f ≤ (i : Int) := by
  intro i
  induction i using Nat.strongRecOn with
  | _ i ih =>
    intro f hf
    have hi := (List.getElem?_eq_some_iff.mp hf).1
    have hit : i < ts.length := by rw [← h.len]; exact hi
    have ht := List.getElem?_eq_getElem hit
    have hx := h.each i _ _ ht hf
    by_cases c : f ≤ (i : Int)
    · exact c
    · cases hx with
      | at_ h0 h1 h2 h3 =>
        have z := h3 (i : Int) (by omega) (by omega)
        unfold freeB at z
        rw [layerOf_none] at z
        · have hn := hne _ (List.getElem_mem hit)
          show f ≤ _
          rw [List.nil_append] at z
          exact absurd z (by
            show ¬ (if _ = _ then false else true) = false
            rw [if_neg hn]
            decide)
        · intro x hx e
          obtain ⟨j, hj⟩ := List.getElem?_of_mem hx
          have hjl := (List.getElem?_eq_some_iff.mp hj).1
          rw [List.length_take] at hjl
          rw [List.getElem?_take_of_lt (by omega)] at hj
          rw [e] at hj
          have := ih j (by omega) _ hj
          omega
/-- forest i is empty when the i-th tie comes -/
theorem FF.empty {k : Int} {ts : List (Int × Int)} {ws : List V} (h : FF k ts ws) (hne : ∀ t ∈ ts, t.1 ≠ t.2) {i : Nat} {t : Int × Int} (ht : ts[i]? = some t) : freeB (ts.take i) (ws.take i) t (i : Int) = true := by
  have hi := (List.getElem?_eq_some_iff.mp ht).1
  unfold freeB
  rw [layerOf_none]
  · rw [List.nil_append]
    show (if _ = _ then false else true) = true
    rw [if_neg (hne _ (List.mem_of_getElem? ht))]
  · intro x hx e
    obtain ⟨j, hj⟩ := List.getElem?_of_mem hx
    have hjl := (List.getElem?_eq_some_iff.mp hj).1
    rw [List.length_take] at hjl
    rw [List.getElem?_take_of_lt (by omega), e] at hj
    have := h.low hne j _ hj
    omega
theorem first_of {p : Int → Bool} {f m : Int} (h0 : 0 ≤ f) (h1 : f < m) (hp : p f = true) (hq : ∀ g, 0 ≤ g → g < f → p g = false) : ∃ r, (upTo m).filter p = f :: r := by
  have e : upTo m = upTo f ++ (f :: (upTo m).drop (f.toNat + 1)) := by
    have hf : (upTo m)[f.toNat]? = some f := by
      unfold upTo
      rw [List.getElem?_map, List.getElem?_range (by omega)]
      show some ((f.toNat : Nat) : Int) = some f
      rw [show ((f.toNat : Nat) : Int) = f by omega]
    have ht : (upTo m).take f.toNat = upTo f := by
      unfold upTo
      rw [← List.map_take, List.take_range, Nat.min_eq_left (by omega)]
    have z := take_rest hf
    rw [ht, List.append_assoc] at z
    exact z
  rw [e, List.filter_append, List.filter_eq_nil_iff.mpr fun g hg => by rw [hq g (mem_upTo hg).1 (mem_upTo hg).2]; decide, List.filter_cons_of_pos hp]
  exact ⟨_, rfl⟩
theorem FF.head {k : Int} {ts : List (Int × Int)} {ws : List V} (h : FF k ts ws) (hne : ∀ t ∈ ts, t.1 ≠ t.2) {i : Nat} {t : Int × Int} {x : V} (ht : ts[i]? = some t) (hx : ws[i]? = some x) :
    ∃ r, (((upTo (min k ((i : Int) + 1))).filter (freeB (ts.take i) (ws.take i) t)).map V.int) ++ [V.non] = x :: r := by
  have c := h.each i t x ht hx
  cases c with
  | out z =>
    rw [List.filter_eq_nil_iff.mpr fun g hg => by rw [z g (mem_upTo hg).1 (by have := (mem_upTo hg).2; omega)]; decide]
    exact ⟨[], rfl⟩
  | @at_ f h0 h1 h2 h3 =>
    have l := h.low hne i f hx
    obtain ⟨r, e⟩ := first_of (m := min k ((i : Int) + 1)) h0 (by omega) h2 h3
    rw [e]
    exact ⟨_, rfl⟩
theorem FF.ints {k : Int} {ts : List (Int × Int)} {ws : List V} (h : FF k ts ws) (hne : ∀ t ∈ ts, t.1 ≠ t.2) (hk : (ts.length : Int) ≤ k) : ∃ ns : List Int, ws = ns.map V.int := by
  refine ⟨ws.map fun v => match v with | .int i => i | _ => 0, ?_⟩
  rw [List.map_map]
  conv => lhs; rw [← List.map_id ws]
  refine List.map_congr_left fun x hx => ?_
  obtain ⟨i, hi⟩ := List.getElem?_of_mem hx
  have hil := (List.getElem?_eq_some_iff.mp hi).1
  have hit : i < ts.length := by rw [← h.len]; exact hil
  have ht := List.getElem?_eq_getElem hit
  have c := h.each i _ x ht hi
  cases c with
  | out z =>
    have e := h.empty hne ht
    rw [z _ (by omega) (by omega)] at e
    cases e
  | at_ => rfl
/-- numbers of forests, or none -/
def IsO (x : V) : Prop := x = .non ∨ ∃ i, x = .int i
theorem FF.isO {k : Int} {ts : List (Int × Int)} {ws : List V} (h : FF k ts ws) : ∀ x ∈ ws, IsO x := fun x hx => by
  obtain ⟨i, hi⟩ := List.getElem?_of_mem hx
  have hil := (List.getElem?_eq_some_iff.mp hi).1
  have hit : i < ts.length := by rw [← h.len]; exact hil
  have c := h.each i _ x (List.getElem?_eq_getElem hit) hi
  cases c with
  | out => exact .inl rfl
  | at_ => exact .inr ⟨_, rfl⟩
/-! ### several forests of leaders -/
theorem Ke.and {S : Addr → Prop} {H H1 H2 : Hp} (a : Ke H H1) (b : Kx S H1 H2) (h : ∀ x, S x → H x = none) : Ke H H2 := by
  refine ⟨fun c o e n q => b.at_ c o (a.at_ c o e n q) n fun z => ?_, fun c t => b.tab c (a.tab c t), fun c e => a.dom c (b.dom c e), fun c ps l q e => b.lam c ps l (fun z => ?_) (a.lam c ps l (fun z => z) e)⟩
  · rw [h c z] at e
    cases e
  · rw [h c z] at e
    cases e
theorem freeB_eq {ts : List (Int × Int)} {ws : List V} {t : Int × Int} {f : Int} (h : ringlessF (fun x => x) (layerOf ts ws f) = true) : freeB ts ws t f = !decide (foldR (fun x => x) (layerOf ts ws f) t.1 = foldR (fun x => x) (layerOf ts ws f) t.2) := ringlessF_more h t
end FF
namespace FF
open PySem PySem.Spec PyProof.Rows L2
variable [LT]
/-! ### the numbers of the ties of a forest -/
def numsFrom (f : Int) : Nat → List V → List Int
  | _, [] => []
  | i, x :: r => (if x = V.int f then [(i : Int)] else []) ++ numsFrom f (i + 1) r
theorem nums_snoc (f : Int) : ∀ (i : Nat) (ws : List V) (x : V), numsFrom f i (ws ++ [x]) = numsFrom f i ws ++ if x = V.int f then [((i + ws.length : Nat) : Int)] else []
  | i, [], x => by
    show (if x = V.int f then [(i : Int)] else []) ++ [] = [] ++ _
    rw [List.append_nil, List.nil_append]
    rfl
  | i, y :: ws, x => by
    show _ ++ numsFrom f (i + 1) (ws ++ [x]) = _
    rw [nums_snoc f (i + 1) ws x, ← List.append_assoc]
    show _ = ((if y = V.int f then [(i : Int)] else []) ++ numsFrom f (i + 1) ws) ++ _
    rw [List.length_cons, show i + 1 + ws.length = i + (ws.length + 1) by omega]
theorem nums_bd (f : Int) : ∀ (i : Nat) (ws : List V), ∀ m ∈ numsFrom f i ws, (i : Int) ≤ m ∧ m < ((i + ws.length : Nat) : Int)
  | i, [], m, h => nomatch h
  | i, y :: ws, m, h => by
    rcases List.mem_append.mp h with h | h
    · by_cases e : y = V.int f
      · rw [if_pos e] at h
        rw [List.mem_singleton.mp h, List.length_cons]
        omega
      · rw [if_neg e] at h
        cases h
    · have := nums_bd f (i + 1) ws m h
      rw [List.length_cons]
      omega
theorem nums_length (f : Int) : ∀ (i : Nat) (ws : List V), (numsFrom f i ws).length ≤ ws.length
  | _, [] => Nat.le_refl _
  | i, y :: ws => by
    have := nums_length f (i + 1) ws
    show ((if y = V.int f then [(i : Int)] else []) ++ numsFrom f (i + 1) ws).length ≤ ws.length + 1
    rw [List.length_append]
    split
    · show 1 + _ ≤ _
      omega
    · show 0 + _ ≤ _
      omega
theorem pick_nums (f : Int) : ∀ (pre ts : List (Int × Int)) (ws : List V), ts.length = ws.length → pick (pre ++ ts) (numsFrom f pre.length ws) = layerOf ts ws f
  | pre, [], [], _ => rfl
  | pre, t :: ts, x :: ws, h => by
    have ih := pick_nums f (pre ++ [t]) ts ws (by simpa using h)
    rw [List.append_assoc, List.length_append] at ih
    show pick (pre ++ t :: ts) ((if x = V.int f then [(pre.length : Int)] else []) ++ numsFrom f (pre.length + 1) ws) = _
    rw [pick_append]
    have e1 : pick (pre ++ t :: ts) (numsFrom f (pre.length + 1) ws) = layerOf ts ws f := ih
    rw [e1]
    have e2 : layerOf (t :: ts) (x :: ws) f = (if x = V.int f then [t] else []) ++ layerOf ts ws f := by
      unfold layerOf
      rw [List.zip_cons_cons]
      by_cases e : x = V.int f
      · rw [List.filter_cons_of_pos (p := fun p : (Int × Int) × V => decide (p.2 = V.int f)) (a := (t, x)) (decide_eq_true e), if_pos e]
        rfl
      · rw [List.filter_cons_of_neg (p := fun p : (Int × Int) × V => decide (p.2 = V.int f)) (a := (t, x)) (by rw [decide_eq_false e]; decide), if_neg e]
        rfl
    rw [e2]
    congr 1
    by_cases e : x = V.int f
    · rw [if_pos e, if_pos e]
      show [(pre ++ t :: ts).getD ((pre.length : Int)).toNat (0, 0)] = [t]
      rw [show ((pre.length : Int)).toNat = pre.length by omega, List.getD_eq_getElem?_getD, List.getElem?_append_right (Nat.le_refl _), Nat.sub_self]
      rfl
    · rw [if_neg e, if_neg e]
      rfl
/-! ### ties by forest, in a dict -/
def kvF (fl : List (Int × Addr)) : List (Key × V) := fl.map fun p => (Sum.inl p.1, V.ref p.2)
structure Byf (H : Hp) (ws : List V) (fl : List (Int × Addr)) : Prop where
  nd : (fl.map Prod.fst).Nodup
  na : (fl.map Prod.snd).Nodup
  each : ∀ p ∈ fl, H p.2 = some (.lst ((numsFrom p.1 0 ws).map V.int))
  mem : ∀ f, V.int f ∈ ws ↔ f ∈ fl.map Prod.fst
theorem Byf.ke {H H' : Hp} {ws : List V} {fl : List (Int × Addr)} (h : Byf H ws fl) (k : Ke H H') : Byf H' ws fl := ⟨h.nd, h.na, fun p hp => k.lst (h.each p hp), h.mem⟩
theorem val_in : ∀ {fl : List (Int × Addr)} {f : Int} {q : Addr}, (fl.map Prod.fst).Nodup → (f, q) ∈ fl → valV (kvF fl) (Sum.inl f) = some (.ref q)
  | p :: fl, f, q, nd, h => by
    rw [List.map_cons, List.nodup_cons] at nd
    rcases List.mem_cons.mp h with h | h
    · rw [← h]
      exact valV_pos rfl
    · have hne : p.1 ≠ f := fun z => nd.1 (z ▸ List.mem_map.mpr ⟨(f, q), h, rfl⟩)
      exact (valV_neg (p := (Sum.inl p.1, V.ref p.2)) (r := kvF fl) fun z => hne (Sum.inl.inj z)).trans (val_in nd.2 h)
theorem val_out {fl : List (Int × Addr)} {f : Int} (h : f ∉ fl.map Prod.fst) : valV (kvF fl) (Sum.inl f) = none := by
  unfold valV kvF
  rw [List.find?_eq_none.mpr fun x hx => ?_]
  · rfl
  · obtain ⟨p, hp, rfl⟩ := List.mem_map.mp hx
    rw [decide_eq_false fun z => h (List.mem_map.mpr ⟨p, hp, Sum.inl.inj z⟩)]
    decide
theorem put_out {fl : List (Int × Addr)} {f : Int} {q : Addr} (h : f ∉ fl.map Prod.fst) : putK (kvF fl) (Sum.inl f) (.ref q) = kvF (fl ++ [(f, q)]) := by
  unfold putK
  rw [valV_any, val_out h]
  show kvF fl ++ [(Sum.inl f, V.ref q)] = kvF (fl ++ [(f, q)])
  unfold kvF
  rw [List.map_append]
  rfl
theorem kvF_length (fl : List (Int × Addr)) : (kvF fl).length = fl.length := List.length_map ..
theorem Byf.skip {H : Hp} {ws : List V} {fl : List (Int × Addr)} (h : Byf H ws fl) : Byf H (ws ++ [.non]) fl :=
  ⟨h.nd, h.na, fun p hp => by rw [nums_snoc, if_neg (fun z => nomatch z), List.append_nil]; exact h.each p hp, fun f => by
    rw [List.mem_append, h.mem f]
    refine ⟨fun z => z.elim id fun z => ?_, Or.inl⟩
    exact nomatch List.mem_singleton.mp z⟩
/-- one more of a forest that has some -/
theorem Byf.more {H : Hp} {ws : List V} {fl : List (Int × Addr)} (h : Byf H ws fl) {f : Int} {q : Addr} (hq : (f, q) ∈ fl) : Byf (upd H q (.lst ((numsFrom f 0 ws).map V.int ++ [.int ws.length]))) (ws ++ [.int f]) fl := by
  refine ⟨h.nd, h.na, fun p hp => ?_, fun g => ?_⟩
  · rw [nums_snoc]
    by_cases e : p.1 = f
    · have e2 : p = (f, q) := by
        have n := h.nd
        have a1 := val_in n (show (p.1, p.2) ∈ fl from hp)
        have a2 := val_in n hq
        rw [e, a2] at a1
        have := Option.some.inj a1
        cases this
        exact Prod.ext e rfl
      rw [e2, upd_same, if_pos rfl, List.map_append, Nat.zero_add]
      rfl
    · have hne : p.2 ≠ q := fun z => by
        have n := h.na
        obtain ⟨i, hi⟩ := List.getElem?_of_mem hp
        obtain ⟨j, hj⟩ := List.getElem?_of_mem hq
        obtain ⟨li, ei⟩ := List.getElem?_eq_some_iff.mp hi
        obtain ⟨lj, ej⟩ := List.getElem?_eq_some_iff.mp hj
        have z2 : (fl.map Prod.snd)[i]'(by rw [List.length_map]; exact li) = (fl.map Prod.snd)[j]'(by rw [List.length_map]; exact lj) := by
          rw [List.getElem_map, List.getElem_map, ei, ej]
          exact z
        have ij := (List.getElem_inj n).mp z2
        subst ij
        rw [ei] at ej
        exact e (congrArg Prod.fst ej)
      rw [upd_ne hne, if_neg (fun z => e (V.int.inj z).symm), List.append_nil]
      exact h.each p hp
  · rw [List.mem_append, h.mem g]
    refine ⟨fun z => z.elim id fun z => ?_, .inl⟩
    have := V.int.inj (List.mem_singleton.mp z)
    rw [this]
    exact List.mem_map.mpr ⟨_, hq, rfl⟩
theorem nums_none {f : Int} : ∀ {i : Nat} {ws : List V}, V.int f ∉ ws → numsFrom f i ws = []
  | _, [], _ => rfl
  | i, x :: ws, h => by
    show (if x = V.int f then [(i : Int)] else []) ++ numsFrom f (i + 1) ws = []
    rw [if_neg (show ¬ x = V.int f from fun z => h (z ▸ List.mem_cons_self)), nums_none fun z => h (List.mem_cons_of_mem _ z)]
    rfl
/-- the first of a forest -/
theorem Byf.first {H : Hp} {ws : List V} {fl : List (Int × Addr)} (h : Byf H ws fl) {f : Int} {q : Addr} (hf : f ∉ fl.map Prod.fst) (hq : q ∉ fl.map Prod.snd) : Byf (upd H q (.lst [.int ws.length])) (ws ++ [.int f]) (fl ++ [(f, q)]) := by
  refine ⟨?_, ?_, fun p hp => ?_, fun g => ?_⟩
  · rw [List.map_append, List.nodup_append]
    exact ⟨h.nd, by simp, fun x hx y hy => by rw [List.mem_singleton.mp hy]; exact fun (z : x = f) => hf (z ▸ hx)⟩
  · rw [List.map_append, List.nodup_append]
    exact ⟨h.na, by simp, fun x hx y hy => by rw [List.mem_singleton.mp hy]; exact fun (z : x = q) => hq (z ▸ hx)⟩
  · rw [nums_snoc]
    rcases List.mem_append.mp hp with hp | hp
    · have e1 : p.1 ≠ f := fun z => hf (z ▸ List.mem_map.mpr ⟨p, hp, rfl⟩)
      have e2 : p.2 ≠ q := fun z => hq (z ▸ List.mem_map.mpr ⟨p, hp, rfl⟩)
      rw [upd_ne e2, if_neg (fun z => e1 (V.int.inj z).symm), List.append_nil]
      exact h.each p hp
    · rw [List.mem_singleton.mp hp, upd_same, if_pos rfl, nums_none (fun z => hf ((h.mem f).mp z)), Nat.zero_add]
      rfl
  · rw [List.mem_append, h.mem g, List.map_append, List.mem_append]
    refine ⟨fun z => z.elim .inl fun z => .inr ?_, fun z => z.elim .inl fun z => .inr ?_⟩
    · rw [V.int.inj (List.mem_singleton.mp z)]
      exact List.mem_singleton.mpr rfl
    · rw [show g = f from List.mem_singleton.mp z]
      exact List.mem_singleton.mpr rfl
theorem Byf.off {H : Hp} {ws : List V} {fl : List (Int × Addr)} {d : Addr} {o : HO} (h : Byf H ws fl) (hd : d ∉ fl.map Prod.snd) : Byf (upd H d o) ws fl :=
  ⟨h.nd, h.na, fun p hp => by rw [upd_ne (show p.2 ≠ d from fun z => hd (z ▸ List.mem_map.mpr ⟨p, hp, rfl⟩))]; exact h.each p hp, h.mem⟩
end FF
namespace FF
open PySem PySem.Spec PyProof.Rows L2
variable [LT]
/-! ### layings -/
def okE (k : Int) (x : V) : Bool := match x with
  | .non => true
  | v => isNum v 0 (k - 1)
def treeB (ts : List (Int × Int)) (ws : List V) (x : V) : Bool := match x with
  | .int f => ringlessF (fun x => x) (layerOf ts ws f)
  | _ => true
def layO (ts : List (Int × Int)) (k : Int) : Option (List V) → Bool
  | none => false
  | some ws => (decide (ws.length = ts.length) && ws.all (okE k)) && ws.all (treeB ts ws)
theorem okE_O {k : Int} {x : V} (h : okE k x = true) : IsO x := by
  cases x with
  | non => exact .inl rfl
  | int i => exact .inr ⟨i, rfl⟩
  | _ => cases h
theorem layO_len {ts : List (Int × Int)} {k : Int} {ws : List V} (h : ws.length ≠ ts.length) : layO ts k (some ws) = false := by
  show ((decide (ws.length = ts.length) && ws.all (okE k)) && ws.all (treeB ts ws)) = false
  rw [decide_eq_false h]
  rfl
theorem layO_bad {ts : List (Int × Int)} {k : Int} {ws : List V} {x : V} (hx : x ∈ ws) (h : okE k x = false) : layO ts k (some ws) = false := by
  show ((decide (ws.length = ts.length) && ws.all (okE k)) && ws.all (treeB ts ws)) = false
  rw [List.all_eq_false.mpr ⟨x, hx, by rw [h]; decide⟩, Bool.and_false]
  rfl
theorem layO_ring {ts : List (Int × Int)} {k : Int} {ws : List V} {f : Int} (hx : V.int f ∈ ws) (h : ringlessF (fun x => x) (layerOf ts ws f) = false) : layO ts k (some ws) = false := by
  show ((decide (ws.length = ts.length) && ws.all (okE k)) && ws.all (treeB ts ws)) = false
  rw [(List.all_eq_false (p := treeB ts ws)).mpr ⟨_, hx, by show ¬ ringlessF (fun x => x) (layerOf ts ws f) = true; rw [h]; decide⟩, Bool.and_false]
theorem layO_good {ts : List (Int × Int)} {k : Int} {ws : List V} (hl : ws.length = ts.length) (ho : ∀ x ∈ ws, okE k x = true) (h : ∀ f, V.int f ∈ ws → ringlessF (fun x => x) (layerOf ts ws f) = true) : layO ts k (some ws) = true := by
  show ((decide (ws.length = ts.length) && ws.all (okE k)) && ws.all (treeB ts ws)) = true
  rw [decide_eq_true hl, List.all_eq_true.mpr ho, List.all_eq_true.mpr fun x hx => ?_]
  · rfl
  · cases x with
    | int f => exact h f hx
    | _ => rfl
end FF
namespace FF
open PySem PySem.Spec PyProof.Rows L2
variable [LT]
/-! ### what first fit tells is a laying -/
theorem FF.forest {k : Int} {ts : List (Int × Int)} {ws : List V} (h : FF k ts ws) (f : Int) : ringlessF (fun x => x) (layerOf ts ws f) = true := by
  have hl := h.len
  have z : ∀ i, i ≤ ts.length → ringlessF (fun x => x) (layerOf (ts.take i) (ws.take i) f) = true := by
    intro i
    induction i with
    | zero => intro _; rfl
    | succ i ih =>
      intro hi
      have h1 : ts[i]? = some ts[i] := List.getElem?_eq_getElem (by omega)
      have h2 : ws[i]? = some ws[i] := List.getElem?_eq_getElem (by omega)
      have c := h.each i _ _ h1 h2
      rw [take_next h1, take_next h2, layerOf_snoc (by rw [List.length_take, List.length_take]; omega)]
      by_cases e : ws[i] = V.int f
      · rw [if_pos e]
        rw [e] at c
        cases c with
        | at_ _ _ h3 _ => exact h3
      · rw [if_neg e, List.append_nil]
        exact ih (by omega)
  have := z ts.length (Nat.le_refl _)
  rw [List.take_length, ← hl, List.take_length] at this
  exact this
theorem okE_int {k f : Int} (h0 : 0 ≤ f) (h1 : f < k) : okE k (.int f) = true := by
  show (decide (0 ≤ f) && decide (f ≤ k - 1)) = true
  rw [decide_eq_true h0, decide_eq_true (by omega)]
  rfl
theorem FF.lay {k : Int} {ts : List (Int × Int)} {ws : List V} (h : FF k ts ws) : layO ts k (some ws) = true :=
  layO_good h.len (fun x hx => by
    obtain ⟨i, hi⟩ := List.getElem?_of_mem hx
    have hil := (List.getElem?_eq_some_iff.mp hi).1
    have hit : i < ts.length := by rw [← h.len]; exact hil
    have c := h.each i _ x (List.getElem?_eq_getElem hit) hi
    cases c with
    | out => rfl
    | at_ h0 h1 => exact okE_int h0 h1) fun f _ => h.forest f
theorem IsO.ty {H : Hp} {x : V} (h : IsO x) : ∃ n, TyN H x n := by
  rcases h with rfl | ⟨i, rfl⟩
  · exact ⟨_, .non⟩
  · exact ⟨_, .int i⟩
/-- a whole laying in m forests -/
structure Laid (ts : List (Int × Int)) (m : Int) (ws : List V) : Prop where
  len : ws.length = ts.length
  num : ∀ x ∈ ws, ∃ j : Int, x = .int j ∧ 0 ≤ j ∧ j < m
  tree : ∀ f, ringlessF (fun x => x) (layerOf ts ws f) = true
theorem Laid.isO {ts : List (Int × Int)} {m : Int} {ws : List V} (h : Laid ts m ws) : ∀ x ∈ ws, IsO x := fun x hx => by
  obtain ⟨j, e, _⟩ := h.num x hx
  exact .inr ⟨j, e⟩
/-- lists of ties by layers -/
structure Lays (H : Hp) (p : Addr) (fs : List Addr) (ws : List V) : Prop where
  at_ : H p = some (.lst (fs.map V.ref))
  nd : fs.Nodup
  out : p ∉ fs
  each : ∀ (j : Nat) q, fs[j]? = some q → H q = some (.lst ((numsFrom (j : Int) 0 ws).map V.int))
theorem Lays.kx {S : Addr → Prop} {H H' : Hp} {p : Addr} {fs : List Addr} {ws : List V} (h : Lays H p fs ws) (k : Kx S H H') (h1 : ¬ S p) (h2 : ∀ q ∈ fs, ¬ S q) : Lays H' p fs ws :=
  ⟨k.at_ _ _ h.at_ (fun _ z => nomatch z) h1, h.nd, h.out, fun j q hq => k.at_ _ _ (h.each j q hq) (fun _ z => nomatch z) (h2 q (List.mem_of_getElem? hq))⟩
theorem Lays.ke {H H' : Hp} {p : Addr} {fs : List Addr} {ws : List V} (h : Lays H p fs ws) (k : Ke H H') : Lays H' p fs ws := h.kx k (fun z => z) (fun _ _ z => z)
theorem Lays.off {H : Hp} {p q : Addr} {o : HO} {fs : List Addr} {ws : List V} (h : Lays H p fs ws) (h1 : q ≠ p) (h2 : q ∉ fs) : Lays (upd H q o) p fs ws :=
  ⟨by rw [upd_ne h1.symm]; exact h.at_, h.nd, h.out, fun j x hx => by rw [upd_ne (show x ≠ q from fun z => h2 (z ▸ List.mem_of_getElem? hx))]; exact h.each j x hx⟩
/-- one tie more in the layer f -/
theorem Lays.put {H : Hp} {p : Addr} {fs : List Addr} {ws : List V} (h : Lays H p fs ws) {f : Nat} {q : Addr} (hq : fs[f]? = some q) : Lays (upd H q (.lst ((numsFrom (f : Int) 0 ws).map V.int ++ [.int ws.length]))) p fs (ws ++ [.int (f : Int)]) := by
  have hm := List.mem_of_getElem? hq
  refine ⟨by rw [upd_ne (show p ≠ q from fun z => h.out (z ▸ hm))]; exact h.at_, h.nd, h.out, fun j x hx => ?_⟩
  rw [nums_snoc]
  by_cases e : j = f
  · subst e
    rw [hq] at hx
    cases hx
    rw [upd_same, if_pos rfl, List.map_append, Nat.zero_add]
    rfl
  · have hne : x ≠ q := fun z => by
      obtain ⟨l1, e1⟩ := List.getElem?_eq_some_iff.mp hq
      obtain ⟨l2, e2⟩ := List.getElem?_eq_some_iff.mp hx
      exact e ((List.getElem_inj h.nd).mp (e2.trans (z.trans e1.symm)))
    rw [upd_ne hne, if_neg (fun z => e (by have := V.int.inj z; omega)), List.append_nil]
    exact h.each j x hx
/-- a new empty layer -/
theorem Lays.more {H : Hp} {p q : Addr} {fs : List Addr} {ws : List V} (h : Lays H p fs ws) (hn : H q = none) (hw : ∀ x ∈ ws, ∃ j : Int, x = .int j ∧ 0 ≤ j ∧ j < fs.length) : Lays (upd (upd H q (.lst [])) p (.lst ((fs ++ [q]).map V.ref))) p (fs ++ [q]) ws := by
  have hqp : q ≠ p := (ne_of_none h.at_ hn).symm
  have hqf : q ∉ fs := fun z => by
    obtain ⟨j, hj⟩ := List.getElem?_of_mem z
    rw [h.each j q hj] at hn
    cases hn
  refine ⟨upd_same, ?_, ?_, fun j x hx => ?_⟩
  · rw [List.nodup_append]
    refine ⟨h.nd, by simp, fun x hx y hy => ?_⟩
    rw [List.mem_singleton.mp hy]
    exact fun z => hqf (z ▸ hx)
  · intro z
    rcases List.mem_append.mp z with z | z
    · exact h.out z
    · exact hqp (List.mem_singleton.mp z).symm
  · by_cases e : j < fs.length
    · rw [List.getElem?_append_left e] at hx
      have hxm := List.mem_of_getElem? hx
      rw [upd_ne (show x ≠ p from fun z => h.out (z ▸ hxm)), upd_ne (show x ≠ q from fun z => hqf (z ▸ hxm))]
      exact h.each j x hx
    · have hj : j = fs.length := by
        have := (List.getElem?_eq_some_iff.mp hx).1
        rw [List.length_append] at this
        have : j < fs.length + 1 := this
        omega
      subst hj
      rw [List.getElem?_append_right (Nat.le_refl _), Nat.sub_self] at hx
      cases hx
      rw [upd_ne hqp, upd_same, nums_none (fun z => ?_)]
      · rfl
      · obtain ⟨j, e1, e2, e3⟩ := hw _ z
        have := V.int.inj e1
        omega
theorem pick_pre {ts : List (Int × Int)} {i : Nat} {ms : List Int} (h : ∀ m ∈ ms, 0 ≤ m ∧ m < (i : Int)) (hi : i ≤ ts.length) : pick ts ms = pick (ts.take i) ms := by
  unfold pick
  refine List.map_congr_left fun m hm => ?_
  have := h m hm
  rw [List.getD_eq_getElem?_getD, List.getD_eq_getElem?_getD, List.getElem?_take_of_lt (by omega)]
theorem pick_layer {ts : List (Int × Int)} {i : Nat} {ws : List V} (hw : ws.length = i) (hi : i ≤ ts.length) (f : Int) : pick ts (numsFrom f 0 ws) = layerOf (ts.take i) ws f := by
  rw [pick_pre (i := i) (fun m hm => ?_) hi]
  · exact pick_nums f [] (ts.take i) ws (by rw [List.length_take]; omega)
  · have := nums_bd f 0 ws m hm
    omega
theorem Laid.snoc {ts : List (Int × Int)} {m m' : Int} {ws : List V} {t : Int × Int} {f : Int} (h : Laid ts m ws) (hm : m ≤ m') (f0 : 0 ≤ f) (f1 : f < m') (hf : freeB ts ws t f = true) : Laid (ts ++ [t]) m' (ws ++ [.int f]) := by
  have hl := h.len
  refine ⟨by rw [List.length_append, List.length_append, hl]; rfl, fun x hx => ?_, fun g => ?_⟩
  · rcases List.mem_append.mp hx with hx | hx
    · obtain ⟨j, e, h0, h1⟩ := h.num x hx
      exact ⟨j, e, h0, by omega⟩
    · exact ⟨f, List.mem_singleton.mp hx, f0, f1⟩
  · rw [layerOf_snoc hl.symm]
    by_cases e : V.int f = V.int g
    · rw [if_pos e]
      have := V.int.inj e
      subst this
      exact hf
    · rw [if_neg e, List.append_nil]
      exact h.tree g
theorem Laid.new_free {ts : List (Int × Int)} {m : Int} {ws : List V} {t : Int × Int} (h : Laid ts m ws) (ht : t.1 ≠ t.2) : freeB ts ws t m = true := by
  unfold freeB
  rw [layerOf_none]
  · rw [List.nil_append]
    show (if _ = _ then false else true) = true
    rw [if_neg ht]
  · intro x hx e
    obtain ⟨j, e2, _, h1⟩ := h.num x hx
    rw [e2] at e
    have := V.int.inj e
    omega
theorem Laid.lay {ts : List (Int × Int)} {m : Int} {ws : List V} (h : Laid ts m ws) : layO ts m (some ws) = true :=
  layO_good h.len (fun x hx => by
    obtain ⟨j, e, h0, h1⟩ := h.num x hx
    rw [e]
    exact okE_int h0 h1) fun f _ => h.tree f
end FF
namespace FF
open PySem PySem.Spec PyProof.Rows L2
variable [LT]
/-! ### a tuple against the empty tuple -/
section
variable {X : Cx} {K : PySem.W.Frag}
end
/-! ### things of any kind, kept -/
theorem TyN.ke {H H' : Hp} {v : V} {n : String} (h : TyN H v n) (k : Ke H H') : TyN H' v n := by
  cases h with
  | non => exact .non
  | bl b => exact .bl b
  | int i => exact .int i
  | str z => exact .str z
  | lst h => exact .lst (k.lst h)
  | tup h => exact .tup (k.tup h)
  | dic h => exact .dic (k.at_ _ _ h (fun _ z => nomatch z) fun z => z)
theorem TyN.new {H : Hp} {p : Addr} {o : HO} {v : V} {n : String} (h : TyN H v n) (k : H p = none) : TyN (upd H p o) v n := h.ke (Ke.new k)
theorem TyN.put {H : Hp} {p : Addr} {xs ys : List V} {v : V} {n : String} (h : TyN H v n) (k : H p = some (.lst xs)) : TyN (upd H p (.lst ys)) v n := by
  cases h with
  | non => exact .non
  | bl b => exact .bl b
  | int i => exact .int i
  | str z => exact .str z
  | @lst a zs h =>
    by_cases e : a = p
    · exact .lst (xs := ys) (by rw [e]; exact upd_same)
    · exact .lst (by rw [upd_ne e]; exact h)
  | tup h => exact .tup (by rw [upd_ne (ne_of h k (fun z => nomatch z))]; exact h)
  | dic h => exact .dic (by rw [upd_ne (ne_of h k (fun z => nomatch z))]; exact h)
theorem TyN.dk {H H' : Hp} {p : Addr} {v : V} {n : String} (h : TyN H v n) (k : Dk p H H') (d : Deck H p) : TyN H' v n := by
  obtain ⟨ds, hp, _⟩ := d
  cases h with
  | non => exact .non
  | bl b => exact .bl b
  | int i => exact .int i
  | str z => exact .str z
  | @lst a zs h =>
    by_cases e : a = p
    · obtain ⟨ds', hp', _⟩ := k.d
      exact .lst (xs := ds'.map V.int) (by rw [e]; exact hp')
    · exact .lst (k.lst h e)
  | tup h => exact .tup (k.k.tup h (ne_of h hp (fun z => nomatch z)))
  | dic h => exact .dic (k.k.at_ _ _ h (fun _ z => nomatch z) (ne_of h hp (fun z => nomatch z)))
theorem Tpl.mono {H H' : Hp} {v : V} {o : Option (List V)} (h : Tpl H v o) (k : ∀ q xs, H q = some (.tup xs) → H' q = some (.tup xs)) (y : ∀ v n, TyN H v n → TyN H' v n) : Tpl H' v o := by
  cases h with
  | yes h hx => exact .yes (k _ _ h) fun x hm => (hx x hm).elim fun n hn => ⟨n, y _ _ hn⟩
  | no h hn => exact .no (y _ _ h) hn
theorem Tpl.ke {H H' : Hp} {v : V} {o : Option (List V)} (h : Tpl H v o) (k : Ke H H') : Tpl H' v o := h.mono (fun _ _ => k.tup) fun _ _ z => z.ke k
theorem Tpl.ty {H : Hp} {v : V} {o : Option (List V)} (h : Tpl H v o) : ∃ n, TyN H v n := by
  cases h with
  | yes h _ => exact ⟨_, .tup h⟩
  | no h _ => exact ⟨_, h⟩
end FF
namespace FF
open PySem PySem.Spec PyProof.Rows L2
variable [LT]
/-! ### t[::-1] of a tuple -/
section
variable {prog : Program} {w : World} {A : Around} {E : Value → Shared → Prop} {s : Shared}
end
section
variable {X : Cx}
end
end FF
namespace FF
open PySem PySem.Spec PyProof.Rows L2
variable [LT]
/-! ### data: shapes and equality -/
structure Sh (k : Nat) (d : PyData) : Prop where
  lay : d.canLay0 = true
  dep : d.depth ≤ k
theorem Sh.shaped {k : Nat} {d : PyData} (h : Sh k d) (hk : k ≤ 64 := by decide) : SeqAt.shaped d = true := by
  unfold SeqAt.shaped
  rw [h.lay, decide_eq_true (Nat.le_trans h.dep hk)]
  rfl
theorem Sh.int {i : Int} : Sh 0 (.int i) := ⟨rfl, Nat.le_refl _⟩
theorem Sh.none : Sh 0 .none := ⟨rfl, Nat.le_refl _⟩
theorem Sh.bool {b : Bool} : Sh 0 (.bool b) := ⟨rfl, Nat.le_refl _⟩
theorem sh_all {k : Nat} : ∀ {ds : List PyData}, (∀ d ∈ ds, Sh k d) → PyData.canLayAll0 ds = true ∧ PyData.depthAll ds ≤ k
  | [], _ => ⟨rfl, Nat.zero_le _⟩
  | d :: r, h => by
    obtain ⟨h1, h2⟩ := sh_all (ds := r) fun x hx => h x (List.mem_cons_of_mem _ hx)
    have h3 := h d List.mem_cons_self
    refine ⟨?_, ?_⟩
    · show (d.canLay0 && PyData.canLayAll0 r) = true
      rw [h3.lay, h1]
      rfl
    · show max d.depth (PyData.depthAll r) ≤ k
      exact Nat.max_le.mpr ⟨h3.dep, h2⟩
theorem Sh.tup {k : Nat} {ds : List PyData} (h : ∀ d ∈ ds, Sh k d) : Sh (k + 1) (.tuple ds) := ⟨(sh_all h).1, Nat.succ_le_succ (sh_all h).2⟩
theorem Sh.lst {k : Nat} {ds : List PyData} (h : ∀ d ∈ ds, Sh k d) : Sh (k + 1) (.list ds) := ⟨(sh_all h).1, Nat.succ_le_succ (sh_all h).2⟩
def dO (x : V) : PyData := match x with
  | .int i => .int i
  | _ => .none
theorem dp_O {K : PySem.W.Frag} {H : Hp} : ∀ {ws : List V}, (∀ x ∈ ws, IsO x) → DpAll K H ws (ws.map dO)
  | [], _ => .nil
  | x :: r, h => by
    refine .cons ?_ (dp_O fun y hy => h y (List.mem_cons_of_mem _ hy))
    rcases h x List.mem_cons_self with rfl | ⟨i, rfl⟩
    · exact .non
    · exact .int i
theorem sh_O {x : V} : Sh 0 (dO x) := by
  cases x with
  | int i => exact .int
  | _ => exact .none
theorem shaped_O (ws : List V) : SeqAt.shaped (.tuple (ws.map dO)) = true := (Sh.tup (k := 0) fun d hd => by
  obtain ⟨x, _, rfl⟩ := List.mem_map.mp hd
  exact sh_O).shaped
end FF
namespace FF
open PySem PySem.Spec PyProof.Rows L2
variable [LT]
/-! ### pieces -/
theorem upTo_succ {n : Int} (h : 0 ≤ n) : upTo (n + 1) = upTo n ++ [n] := by
  obtain ⟨m, rfl⟩ : ∃ m : Nat, n = m := ⟨n.toNat, by omega⟩
  exact upTo_snoc m
theorem upTo_mem {n x : Int} : x ∈ upTo n ↔ 0 ≤ x ∧ x < n := by
  refine ⟨mem_upTo, fun ⟨h0, h1⟩ => ?_⟩
  unfold upTo
  exact List.mem_map.mpr ⟨x.toNat, List.mem_range.mpr (by omega), by omega⟩
theorem upTo_up (n : Int) : (upTo n).Pairwise (· < ·) := by
  unfold upTo
  rw [List.pairwise_map]
  exact List.pairwise_lt_range.imp fun h => by omega
def least (g : Int → Int) (x : Int) : Bool := (upTo x).all fun y => !decide (g y = g x)
def piece (g : Int → Int) (n x : Int) : List Int := (upTo n).filter fun y => decide (g y = g x)
/-- rising lists with the same members are one -/
theorem up_same : ∀ {l m : List Int}, l.Pairwise (· < ·) → m.Pairwise (· < ·) → (∀ x, x ∈ l ↔ x ∈ m) → l = m
  | [], [], _, _, _ => rfl
  | [], b :: s, _, _, h => by have := (h b).mpr List.mem_cons_self; cases this
  | a :: r, [], _, _, h => by have := (h a).mp List.mem_cons_self; cases this
  | a :: r, b :: s, hl, hm, h => by
    obtain ⟨l1, l2⟩ := List.pairwise_cons.mp hl
    obtain ⟨m1, m2⟩ := List.pairwise_cons.mp hm
    have e : a = b := by
      have h1 := (h a).mp List.mem_cons_self
      have h2 := (h b).mpr List.mem_cons_self
      rcases List.mem_cons.mp h1 with z | z
      · exact z
      · rcases List.mem_cons.mp h2 with y | y
        · exact y.symm
        · have := l1 b y
          have := m1 a z
          omega
    subst e
    congr 1
    refine up_same l2 m2 fun x => ⟨fun hx => ?_, fun hx => ?_⟩
    · rcases List.mem_cons.mp ((h x).mp (List.mem_cons_of_mem _ hx)) with z | z
      · have := l1 x hx
        omega
      · exact z
    · rcases List.mem_cons.mp ((h x).mpr (List.mem_cons_of_mem _ hx)) with z | z
      · have := m1 x hx
        omega
      · exact z
end FF
namespace FF
open PySem PySem.Spec PyProof.Rows L2
variable [LT]
/-! ### max and set of tuples of ints -/
section
variable {X : Cx} {K : PySem.W.Frag}
theorem fold_max : ∀ (ns : List Int) (n : Int), (ns.foldl max n ∈ n :: ns) ∧ ∀ y ∈ n :: ns, y ≤ ns.foldl max n
  | [], n => ⟨List.mem_cons_self, fun y hy => by rw [List.mem_singleton.mp hy]; exact Int.le_refl _⟩
  | a :: r, n => by
    obtain ⟨h1, h2⟩ := fold_max r (max n a)
    have e : (a :: r).foldl max n = r.foldl max (max n a) := rfl
    rw [e]
    refine ⟨?_, fun y hy => ?_⟩
    · rcases List.mem_cons.mp h1 with z | z
      · rw [z]
        rcases Int.le_total n a with c | c
        · rw [Int.max_eq_right c]; exact List.mem_cons_of_mem _ List.mem_cons_self
        · rw [Int.max_eq_left c]; exact List.mem_cons_self
      · exact List.mem_cons_of_mem _ (List.mem_cons_of_mem _ z)
    · have hm := h2 (max n a) List.mem_cons_self
      rcases List.mem_cons.mp hy with z | hy
      · omega
      · rcases List.mem_cons.mp hy with z | hy
        · omega
        · exact h2 y (List.mem_cons_of_mem _ hy)
def rMaxT (K : PySem.W.Frag) : List V → Hp → VK → Prop := fun vs H Q => ∃ (a : Addr) (ns : List Int), vs = [V.ref a] ∧ SqT K H a (ns.map V.int) ∧ 0 < ns.length ∧ ∀ m, m ∈ ns → (∀ y, y ∈ ns → y ≤ m) → Q (.int m) H
theorem maxT (hc : X.calm = true) (hu : X.A.units + 64 < cLine) (h : X.K = K := by rfl) : CallR X (.builtin "max") (rMaxT K) := by
  subst h
  intro pins s σ H vs us Q I r hq
  obtain ⟨a, ns, rfl, hs, hne, q⟩ := hq
  obtain ⟨its, rv, hl, _⟩ := I.tuple hs
  rw [Vals.ref1 r]
  cases ns with
  | nil => exact absurd hne (Nat.lt_irrefl 0)
  | cons n ns =>
    obtain ⟨as, hr⟩ := Dp.readsAll I _ _ its (dp_ints (n :: ns)) rv
    have hd : PyData.depthAll ((n :: ns).map PyData.int) = 0 := PySem.W.ke_depthAll (n :: ns)
    refine PySem.W.max_tuple_data (x := .int n) (xs := ns.map PyData.int) (I.ok.hd hc) (show s.heap.IsTuple a its.toArray from hl) (by simpa using hr) ⟨fun x hx y hy => ?_, fun x hx => ?_⟩ (by show X.A.units + 1 + PyData.depthAll ((n :: ns).map PyData.int) < cLine; rw [hd]; omega) fun i v h' tk bs hi rd hk => ?_
    · obtain ⟨i, _, rfl⟩ := List.mem_map.mp (show x ∈ (n :: ns).map PyData.int from hx)
      obtain ⟨j, _, rfl⟩ := List.mem_map.mp (show y ∈ (n :: ns).map PyData.int from hy)
      rfl
    · obtain ⟨i, _, rfl⟩ := List.mem_map.mp (show x ∈ (n :: ns).map PyData.int from hx)
      intro z
      cases z
    · rw [PySem.W.maxD_ints] at rd
      cases rd with
      | int t =>
        exact ⟨.int _, H, I.kept hk, ⟨_, rfl⟩, q _ (fold_max ns n).1 (fold_max ns n).2⟩
end
end FF
namespace FF
open PySem PySem.Spec PyProof.Rows L2
variable [LT]
/-! ### ties between parts -/
def between (ps : List Int) (ts : List (Int × Int)) : Nat := (ts.filter fun t => !decide (hat ps t.1 = hat ps t.2)).length
/-- the first place of a number -/
def firstAt (fs : List Int) (x : Int) : Nat := fs.findIdx fun y => decide (y = x)
theorem firstAt_lt {fs : List Int} {x : Int} (h : x ∈ fs) : firstAt fs x < fs.length := List.findIdx_lt_length_of_exists ⟨x, h, decide_eq_true rfl⟩
theorem firstAt_get {fs : List Int} {x : Int} (h : x ∈ fs) : fs[firstAt fs x]? = some x := by
  have hl := firstAt_lt h
  rw [List.getElem?_eq_getElem hl]
  congr 1
  exact of_decide_eq_true (List.findIdx_getElem (w := hl))
theorem firstAt_inj {fs : List Int} {x y : Int} (hx : x ∈ fs) (hy : y ∈ fs) : firstAt fs x = firstAt fs y ↔ x = y := by
  refine ⟨fun e => ?_, fun e => by rw [e]⟩
  have h1 := firstAt_get hx
  rw [e, firstAt_get hy] at h1
  exact (Option.some.inj h1).symm
theorem firstAt_ahead {fs : List Int} {x : Int} {m : Nat} {z : Int} (hm : m < firstAt fs x) (hz : fs[m]? = some z) : z ≠ x := by
  have hl := (List.getElem?_eq_some_iff.mp hz).1
  have h1 := List.not_of_lt_findIdx hm
  have e : fs[m] = z := (List.getElem?_eq_some_iff.mp hz).2
  intro c
  rw [e, c, decide_eq_true rfl] at h1
  cases h1
/-! ### ties between and within are all -/
theorem inside_cons (ls : List Int) (t : Int × Int) (ts : List (Int × Int)) : inside ls (t :: ts) = (if (decide (t.1 ∈ ls) && decide (t.2 ∈ ls)) = true then 1 else 0) + inside ls ts := by
  unfold inside
  rw [List.filter_cons]
  split
  · rw [List.length_cons, Nat.add_comm]
  · rw [Nat.zero_add]
theorem sum_add {α : Type} (f g : α → Int) : ∀ l : List α, (l.map fun x => f x + g x).sum = (l.map f).sum + (l.map g).sum
  | [] => rfl
  | x :: r => by
    simp only [List.map_cons, List.sum_cons]
    rw [sum_add f g r]
    omega
theorem sum_one {m : Int} (g : Int → Int) : ∀ {l : List Int}, l.Nodup → m ∈ l → (∀ x ∈ l, x ≠ m → g x = 0) → (l.map g).sum = g m
  | x :: r, nd, hm, h0 => by
    obtain ⟨n1, n2⟩ := List.nodup_cons.mp nd
    rw [List.map_cons, List.sum_cons]
    by_cases e : x = m
    · subst e
      have : (r.map g).sum = 0 := by
        have hz : ∀ y ∈ r, g y = 0 := fun y hy => h0 y (List.mem_cons_of_mem _ hy) fun c => n1 (c ▸ hy)
        clear h0 nd n2 hm n1
        induction r with
        | nil => rfl
        | cons y r ih =>
          rw [List.map_cons, List.sum_cons, hz y List.mem_cons_self, ih fun z hz' => hz z (List.mem_cons_of_mem _ hz')]
          rfl
      omega
    · rcases List.mem_cons.mp hm with c | hm
      · exact absurd c.symm e
      · rw [h0 x List.mem_cons_self e, sum_one g n2 hm fun y hy => h0 y (List.mem_cons_of_mem _ hy)]
        omega
theorem sum_zero {α : Type} (g : α → Int) : ∀ {l : List α}, (∀ x ∈ l, g x = 0) → (l.map g).sum = 0
  | [], _ => rfl
  | x :: r, h => by
    rw [List.map_cons, List.sum_cons, h x List.mem_cons_self, sum_zero g fun y hy => h y (List.mem_cons_of_mem _ hy)]
    rfl
/-- ties join: both ends have one root -/
theorem rstep_keep {r : Int → Int} {t : Int × Int} {x y : Int} (h : r x = r y) : rstep r t x = rstep r t y := by
  unfold rstep
  rw [h]
theorem foldR_keep : ∀ {ts : List (Int × Int)} {r : Int → Int} {x y : Int}, r x = r y → foldR r ts x = foldR r ts y
  | [], _, _, _, h => h
  | t :: ts, r, _, _, h => foldR_keep (ts := ts) (r := rstep r t) (rstep_keep h)
theorem foldR_tie : ∀ {ts : List (Int × Int)} {r : Int → Int} {t : Int × Int}, t ∈ ts → foldR r ts t.1 = foldR r ts t.2
  | u :: ts, r, t, h => by
    rcases List.mem_cons.mp h with rfl | h
    · refine foldR_keep (ts := ts) (r := rstep r t) ?_
      unfold rstep
      rw [if_pos rfl]
      by_cases c : r t.1 = r t.2
      · rw [if_pos c]
      · rw [if_neg c]
    · exact foldR_tie (ts := ts) (r := rstep r u) h
end FF
namespace FF
open PySem PySem.Spec PyProof.Rows L2
variable [LT]
/-! ### tuple * int, from 0 on -/
section
variable {X : Cx}
end
end FF
namespace FF
open PySem PySem.Spec PyProof.Rows L2
variable [LT]
/-! ### hung forests -/
structure Nd where
  top : Int
  dep : Int
  up : Option (Int × Int)
def Nd.vals (d : Nd) : List V := match d.up with
  | none => [.int d.top, .int d.dep, .non, .non]
  | some (y, m) => [.int d.top, .int d.dep, .int y, .int m]
theorem Nd.vals1 (d : Nd) : d.vals[1]? = some (.int d.dep) := by
  unfold Nd.vals
  split <;> rfl
abbrev Nds := List (Option Nd)
/-! ### steps from point to point -/
/-- a tie m leads from x to y -/
def Leads (ts : List (Int × Int)) (m x y : Int) : Prop := ts.getD m.toNat (0, 0) = (x, y) ∨ ts.getD m.toNat (0, 0) = (y, x)
theorem Leads.symm {ts : List (Int × Int)} {m x y : Int} (h : Leads ts m x y) : Leads ts m y x := h.elim .inr .inl
/-! ### hung in part -/
theorem Leads.rng {n : Int} {ts : List (Int × Int)} {m x y : Int} (h : Leads ts m x y) (ok : TOk n [ts.getD m.toNat (0, 0)]) : 0 ≤ y ∧ y < n := by
  have := ok _ List.mem_cons_self
  rcases h with h | h
  · rw [h] at this
    dsimp only at this
    omega
  · rw [h] at this
    dsimp only at this
    omega
end FF
namespace FF
open PySem PySem.Spec PyProof.Rows L2
variable [LT]
/-! ### ways along ties -/
inductive Way (ts : List (Int × Int)) : Int → List Int → Int → Prop where
  | nil (x : Int) : Way ts x [] x
  | cons {m x y z : Int} {l : List Int} : Leads ts m x y → Way ts y l z → Way ts x (m :: l) z
theorem Way.append {ts : List (Int × Int)} {x y z : Int} {l k : List Int} (h : Way ts x l y) (g : Way ts y k z) : Way ts x (l ++ k) z := by
  induction h with
  | nil x => exact g
  | cons hl _ ih => exact .cons hl (ih g)
theorem Way.snoc {ts : List (Int × Int)} {x y z m : Int} {l : List Int} (h : Way ts x l y) (g : Leads ts m y z) : Way ts x (l ++ [m]) z := h.append (.cons g (.nil z))
section
variable {n : Int} {ts : List (Int × Int)} {ms : List Int} {ds : Nds}
end
section
variable {n : Int} {ts : List (Int × Int)} {ms : List Int} {ds : Nds} {a0 b0 a b : Int} {xs ys : List Int}
/-- the ring that comes of it -/
structure IsRing (ts : List (Int × Int)) (ms : List Int) (a b : Int) (ns : List Int) : Prop where
  way : Way ts a ns b
  nd : ns.Nodup
  mem : ∀ m ∈ ns, m ∈ ms
end
/-! ### joined by the ties: the roots tell -/
theorem foldR_fine {g : Int → Int} : ∀ {L : List (Int × Int)} {r : Int → Int}, (∀ x y, r x = r y → g x = g y) → (∀ t ∈ L, g t.1 = g t.2) → ∀ x y, foldR r L x = foldR r L y → g x = g y
  | [], _, h, _, x, y, e => h x y e
  | t :: L, r, h, k, x, y, e => by
    refine foldR_fine (L := L) (r := rstep r t) (fun x y e => ?_) (fun u hu => k u (List.mem_cons_of_mem _ hu)) x y e
    have kt := k t List.mem_cons_self
    unfold rstep at e
    by_cases c1 : r x = r t.2
    · rw [if_pos c1] at e
      by_cases c2 : r y = r t.2
      · exact h x y (c1.trans c2.symm)
      · rw [if_neg c2] at e
        exact (h x t.2 c1).trans (kt.symm.trans (h t.1 y e))
    · rw [if_neg c1] at e
      by_cases c2 : r y = r t.2
      · rw [if_pos c2] at e
        exact (h x t.1 e).trans (kt.trans (h t.2 y c2.symm))
      · rw [if_neg c2] at e
        exact h x y e
theorem Leads.foldR {ts : List (Int × Int)} {ms : List Int} {m x y : Int} (hm : m ∈ ms) (h : Leads ts m x y) : FF.foldR (fun x => x) (pick ts ms) x = FF.foldR (fun x => x) (pick ts ms) y := by
  have hp : ts.getD m.toNat (0, 0) ∈ pick ts ms := List.mem_map.mpr ⟨m, hm, rfl⟩
  have := foldR_tie (r := fun x => x) hp
  rcases h with h | h
  · rw [h] at this
    exact this
  · rw [h] at this
    exact this.symm
section
variable {n : Int} {ts : List (Int × Int)} {ms : List Int} {ds : Nds}
end
theorem nums_at {f : Int} : ∀ {i : Nat} {ws : List V} {m : Int}, m ∈ numsFrom f i ws → ∃ k : Nat, m = ((i + k : Nat) : Int) ∧ ws[k]? = some (.int f)
  | _, [], _, h => nomatch h
  | i, x :: ws, m, h => by
    rcases List.mem_append.mp h with h | h
    · by_cases e : x = V.int f
      · rw [if_pos e] at h
        exact ⟨0, by rw [List.mem_singleton.mp h]; rfl, by rw [e]; rfl⟩
      · rw [if_neg e] at h
        cases h
    · obtain ⟨k, e1, e2⟩ := nums_at h
      exact ⟨k + 1, by rw [e1]; congr 1; omega, by simpa using e2⟩
theorem Way.inv {ts : List (Int × Int)} {x z m : Int} {l : List Int} (h : Way ts x (m :: l) z) : ∃ y, Leads ts m x y ∧ Way ts y l z := by
  cases h with
  | cons a b => exact ⟨_, a, b⟩
theorem Way.stop {ts : List (Int × Int)} {x z : Int} (h : Way ts x [] z) : x = z := by
  cases h
  rfl
theorem nub_of_nd : ∀ {ns : List Int}, ns.Nodup → (nub ns).length = ns.length := fun {ns} h => nd_eq (nub_nd ns) h fun x => mem_nub ns x
end FF
namespace FF
open PySem PySem.Spec PyProof.Rows L2
variable [LT]
/-! ### sum of a tuple of ints -/
section
variable {X : Cx} {K : PySem.W.Frag}
end
end FF
namespace FF
open PySem PySem.Spec PyProof.Rows L2
variable [LT]
/-! ### first fit in fewer forests -/
theorem FF.take {k : Int} {ts : List (Int × Int)} {ws : List V} (h : FF k ts ws) (i : Nat) : FF k (ts.take i) (ws.take i) := by
  refine ⟨by rw [List.length_take, List.length_take, h.len], fun j t x ht hx => ?_⟩
  have hj : j < i := by
    have := (List.getElem?_eq_some_iff.mp ht).1
    rw [List.length_take] at this
    omega
  rw [List.getElem?_take_of_lt hj] at ht hx
  rw [List.take_take, List.take_take, Nat.min_eq_left (by omega)]
  exact h.each j t x ht hx
theorem FF.joined {k : Int} {ts : List (Int × Int)} {ws : List V} (h : FF k ts ws) (i : Nat) (t : Int × Int) (f : Int) : (foldR (fun x => x) (layerOf (ts.take i) (ws.take i) f) t.1 = foldR (fun x => x) (layerOf (ts.take i) (ws.take i) f) t.2) ↔ freeB (ts.take i) (ws.take i) t f = false := by
  rw [freeB_eq ((h.take i).forest f)]
  constructor
  · intro e
    rw [decide_eq_true e]
    rfl
  · intro e
    by_cases c : foldR (fun x => x) (layerOf (ts.take i) (ws.take i) f) t.1 = foldR (fun x => x) (layerOf (ts.take i) (ws.take i) f) t.2
    · exact c
    · rw [decide_eq_false c] at e
      cases e
theorem layerOf_congr {f : Int} : ∀ {ts : List (Int × Int)} {ws ws' : List V}, ws.length = ws'.length → (∀ (j : Nat) x y, ws[j]? = some x → ws'[j]? = some y → (x = V.int f ↔ y = V.int f)) → layerOf ts ws f = layerOf ts ws' f
  | [], _, _, _, _ => rfl
  | t :: ts, [], [], _, _ => rfl
  | t :: ts, x :: ws, y :: ws', hl, h => by
    have ih := layerOf_congr (f := f) (ts := ts) (ws := ws) (ws' := ws') (by simpa using hl) fun j a b ha hb => h (j + 1) a b (by simpa using ha) (by simpa using hb)
    have h0 := h 0 x y rfl rfl
    unfold layerOf at ih ⊢
    rw [List.zip_cons_cons, List.zip_cons_cons, List.filter_cons, List.filter_cons]
    by_cases c : x = V.int f
    · rw [if_pos (decide_eq_true c), if_pos (decide_eq_true (h0.mp c)), List.map_cons, List.map_cons, ih]
    · rw [if_neg (by rw [decide_eq_false c]; decide), if_neg (by rw [decide_eq_false fun z => c (h0.mpr z)]; decide), ih]
theorem FF.more {k K : Int} {ts : List (Int × Int)} {ws ws' : List V} (h : FF k ts ws) (h' : FF K ts ws') (hk : k ≤ K) : ∀ (i : Nat) x y, ws[i]? = some x → ws'[i]? = some y → ∀ f, f < k → (x = V.int f ↔ y = V.int f) := by
  intro i
  induction i using Nat.strongRecOn with
  | _ i ih =>
    intro x y hx hy f hf
    have hil := (List.getElem?_eq_some_iff.mp hx).1
    have hit : i < ts.length := by rw [← h.len]; exact hil
    have ht := List.getElem?_eq_getElem hit
    have c := h.each i _ x ht hx
    have c' := h'.each i _ y ht hy
    have fr : ∀ g, g < k → freeB (ts.take i) (ws.take i) ts[i] g = freeB (ts.take i) (ws'.take i) ts[i] g := fun g hg => by
      unfold freeB
      rw [layerOf_congr (ws := ws.take i) (ws' := ws'.take i) (by rw [List.length_take, List.length_take, h.len, h'.len]) fun j a b ha hb => ?_]
      have hj : j < i := by
        have := (List.getElem?_eq_some_iff.mp ha).1
        rw [List.length_take] at this
        omega
      rw [List.getElem?_take_of_lt hj] at ha hb
      exact ih j hj a b ha hb g hg
    constructor
    · intro e
      subst e
      cases c with
      | at_ f0 f1 ff fb =>
        cases c' with
        | out z =>
          have := z f f0 (by omega)
          rw [← fr f hf, ff] at this
          cases this
        | @at_ g g0 g1 gf gb =>
          by_cases c1 : g < f
          · have := fb g g0 c1
            rw [fr g (by omega), gf] at this
            cases this
          · by_cases c2 : f < g
            · have := gb f f0 c2
              rw [← fr f hf, ff] at this
              cases this
            · rw [show g = f by omega]
    · intro e
      subst e
      cases c' with
      | at_ g0 g1 gf gb =>
        cases c with
        | out z =>
          have := z f g0 hf
          rw [fr f hf, gf] at this
          cases this
        | @at_ g f0 f1 ff fb =>
          by_cases c1 : f < g
          · have := fb f g0 c1
            rw [fr f hf, gf] at this
            cases this
          · by_cases c2 : g < f
            · have := gb g f0 c2
              rw [← fr g f1, ff] at this
              cases this
            · rw [show g = f by omega]
end FF
namespace FF
open PySem PySem.Spec PyProof.Rows L2
variable [LT]
/-! ### two points with many ties -/
def dueV (k : Int) (i : Nat) : V := if (i : Int) < k then .int i else .non
def due (k : Int) (m : Nat) : List V := (List.range m).map (dueV k)
end FF
namespace FF
open PySem PySem.Spec PyProof.Rows L2
variable [LT]
/-! ### forests in any order; ties on the way -/
theorem ringlessF_ker : ∀ (L : List (Int × Int)) {r r' : Int → Int}, (∀ x y, r x = r y ↔ r' x = r' y) → ringlessF r L = ringlessF r' L
  | [], _, _, _ => rfl
  | t :: L, r, r', h => by
    show (if r t.1 = r t.2 then false else ringlessF (rstep r t) L) = (if r' t.1 = r' t.2 then false else ringlessF (rstep r' t) L)
    by_cases c : r t.1 = r t.2
    · rw [if_pos c, if_pos ((h _ _).mp c)]
    · rw [if_neg c, if_neg (fun z => c ((h _ _).mpr z))]
      refine ringlessF_ker L fun x y => ?_
      have h1 := h x y
      have h2 := h x t.2
      have h3 := h y t.2
      have h4 := h x t.1
      have h5 := h y t.1
      have h6 := h t.1 x
      have h7 := h t.1 y
      unfold rstep
      by_cases a1 : r x = r t.2
      · rw [if_pos a1, if_pos (h2.mp a1)]
        by_cases a2 : r y = r t.2
        · rw [if_pos a2, if_pos (h3.mp a2)]
          exact ⟨fun _ => rfl, fun _ => rfl⟩
        · rw [if_neg a2, if_neg (fun z => a2 (h3.mpr z))]
          exact h7
      · rw [if_neg a1, if_neg (fun z => a1 (h2.mpr z))]
        by_cases a2 : r y = r t.2
        · rw [if_pos a2, if_pos (h3.mp a2)]
          exact h4
        · rw [if_neg a2, if_neg (fun z => a2 (h3.mpr z))]
          exact h1
theorem foldR_sub {r : Int → Int} {L L' : List (Int × Int)} (h : ∀ t ∈ L, t ∈ L') (x y : Int) (e : foldR r L x = foldR r L y) : foldR r L' x = foldR r L' y :=
  foldR_fine (fun _ _ z => foldR_keep z) (fun t ht => foldR_tie (r := r) (h t ht)) x y e
theorem ringlessF_swap (r : Int → Int) (t u : Int × Int) (L : List (Int × Int)) : ringlessF r (t :: u :: L) = ringlessF r (u :: t :: L) := by
  show (if r t.1 = r t.2 then false else if rstep r t u.1 = rstep r t u.2 then false else ringlessF (rstep (rstep r t) u) L) = (if r u.1 = r u.2 then false else if rstep r u t.1 = rstep r u t.2 then false else ringlessF (rstep (rstep r u) t) L)
  by_cases c1 : r t.1 = r t.2
  · rw [if_pos c1]
    by_cases c2 : r u.1 = r u.2
    · rw [if_pos c2]
    · rw [if_neg c2, if_pos]
      unfold rstep
      rw [c1]
  · rw [if_neg c1]
    by_cases c2 : r u.1 = r u.2
    · rw [if_pos c2, if_pos]
      unfold rstep
      rw [c2]
    · rw [if_neg c2]
      by_cases c3 : rstep r t u.1 = rstep r t u.2
      · rw [if_pos c3, if_pos]
        unfold rstep at c3 ⊢
        split at c3 <;> split at c3 <;> split <;> split <;> omega
      · rw [if_neg c3, if_neg]
        · refine ringlessF_ker L fun x y => ?_
          have k1 := foldR_sub (r := r) (L := [t, u]) (L' := [u, t]) (fun w hw => by simp at hw ⊢; exact hw.symm) x y
          have k2 := foldR_sub (r := r) (L := [u, t]) (L' := [t, u]) (fun w hw => by simp at hw ⊢; exact hw.symm) x y
          exact ⟨k1, k2⟩
        · intro z
          refine c3 ?_
          unfold rstep at z ⊢
          split at z <;> split at z <;> split <;> split <;> omega
theorem ringlessF_perm {L L' : List (Int × Int)} (h : L.Perm L') : ∀ r : Int → Int, ringlessF r L = ringlessF r L' := by
  induction h with
  | nil => exact fun _ => rfl
  | cons t _ ih =>
    intro r
    show (if r t.1 = r t.2 then false else ringlessF (rstep r t) _) = (if r t.1 = r t.2 then false else ringlessF (rstep r t) _)
    rw [ih]
  | swap t u L => exact fun r => ringlessF_swap r u t L
  | trans _ _ a b => exact fun r => (a r).trans (b r)
theorem forest_apart {r : Int → Int} {L L' : List (Int × Int)} {t : Int × Int} (hp : L.Perm (L' ++ [t])) (h : ringlessF r L = true) : foldR r L' t.1 ≠ foldR r L' t.2 := by
  rw [ringlessF_perm hp r] at h
  cases e : ringlessF r L' with
  | false =>
    rw [ringlessF_bad L' r [t] e] at h
    cases h
  | true =>
    rw [ringlessF_more e, Bool.not_eq_true'] at h
    exact of_decide_eq_false h
theorem but_perm {x : Int} {ms : List Int} (hn : ms.Nodup) (hx : x ∈ ms) : ms.Perm (but x ms ++ [x]) := by
  induction ms with
  | nil => cases hx
  | cons m ms ih =>
    obtain ⟨h1, h2⟩ := List.nodup_cons.mp hn
    by_cases c : m = x
    · subst c
      have e : but m (m :: ms) = ms := by
        unfold but
        rw [List.filter_cons_of_neg (by simp), List.filter_eq_self.mpr]
        intro y hy
        have c : ¬ y = m := fun z => h1 (by rw [← z]; exact hy)
        rw [decide_eq_false c]
        rfl
      rw [e]
      exact (List.perm_append_singleton m ms).symm
    · have hx' : x ∈ ms := (List.mem_cons.mp hx).resolve_left fun z => c z.symm
      have e : but x (m :: ms) = m :: but x ms := by
        unfold but
        rw [List.filter_cons_of_pos]
        rw [decide_eq_false c]
        rfl
      rw [e]
      exact (ih h2 hx').cons m
theorem mem_but {g x : Int} {ms : List Int} : x ∈ but g ms ↔ x ∈ ms ∧ x ≠ g := by
  unfold but
  rw [List.mem_filter, Bool.not_eq_true', decide_eq_false_iff_not]
theorem Way.joined {ts : List (Int × Int)} {ms : List Int} {x y : Int} {l : List Int} (h : Way ts x l y) (hm : ∀ m ∈ l, m ∈ ms) : foldR (fun x => x) (pick ts ms) x = foldR (fun x => x) (pick ts ms) y := by
  induction h with
  | nil x => rfl
  | cons hl _ ih => exact (hl.foldR (hm _ List.mem_cons_self)).trans (ih fun m hm' => hm m (List.mem_cons_of_mem _ hm'))
theorem Way.cut {ts : List (Int × Int)} : ∀ {l : List Int} {x z m : Int}, Way ts x l z → m ∈ l → ∃ (l1 l2 : List Int) (u v : Int), l = l1 ++ m :: l2 ∧ Way ts x l1 u ∧ Leads ts m u v ∧ Way ts v l2 z
  | k :: l, x, z, m, h, hm => by
    obtain ⟨y, h1, h2⟩ := h.inv
    by_cases c : m = k
    · subst c
      exact ⟨[], l, x, y, rfl, .nil x, h1, h2⟩
    · obtain ⟨l1, l2, u, v, e, w1, w2, w3⟩ := h2.cut ((List.mem_cons.mp hm).resolve_left c)
      exact ⟨k :: l1, l2, u, v, by rw [e]; rfl, .cons h1 w1, w2, w3⟩
/-- a tie of a forest is on the way from a to b just if without it they are apart -/
theorem IsRing.mem_iff {ts : List (Int × Int)} {ms ns : List Int} {a b : Int} (h : IsRing ts ms a b ns) (hf : ringlessF (fun x => x) (pick ts ms) = true) (hn : ms.Nodup) (x : Int) : x ∈ ns ↔ x ∈ ms ∧ foldR (fun x => x) (pick ts (but x ms)) a ≠ foldR (fun x => x) (pick ts (but x ms)) b := by
  constructor
  · intro hx
    have hxm := h.mem x hx
    refine ⟨hxm, fun e => ?_⟩
    obtain ⟨l1, l2, u, v, el, w1, w2, w3⟩ := h.way.cut hx
    have hnd := h.nd
    rw [el] at hnd
    have hnd' := List.nodup_append.mp hnd
    have hx1 : ∀ m ∈ l1, m ∈ but x ms := fun m hm => mem_but.mpr ⟨h.mem m (by rw [el]; exact List.mem_append_left _ hm), hnd'.2.2 m hm x List.mem_cons_self⟩
    have hx2 : ∀ m ∈ l2, m ∈ but x ms := fun m hm => mem_but.mpr ⟨h.mem m (by rw [el]; exact List.mem_append_right _ (List.mem_cons_of_mem _ hm)), fun z => (List.nodup_cons.mp hnd'.2.1).1 (z ▸ hm)⟩
    have e1 := w1.joined hx1
    have e2 := w3.joined hx2
    have e3 : foldR (fun x => x) (pick ts (but x ms)) u = foldR (fun x => x) (pick ts (but x ms)) v := e1.symm.trans (e.trans e2.symm)
    have hp : (pick ts ms).Perm (pick ts (but x ms) ++ [ts.getD x.toNat (0, 0)]) := by
      rw [show [ts.getD x.toNat (0, 0)] = pick ts [x] from rfl, ← pick_append]
      exact (but_perm hn hxm).map _
    have ha := forest_apart hp hf
    rcases w2 with w2 | w2
    · rw [w2] at ha
      exact ha e3
    · rw [w2] at ha
      exact ha e3.symm
  · intro ⟨_, hne⟩
    by_cases c : x ∈ ns
    · exact c
    · exact absurd (h.way.joined fun m hm => mem_but.mpr ⟨h.mem m hm, fun z => c (by rw [← z]; exact hm)⟩) hne
end FF
namespace FF
open PySem PySem.Spec PyProof.Rows L2
variable [LT]
/-! ### a search along ties -/
theorem mem_nums {f : Int} : ∀ {i : Nat} {ws : List V} {k : Nat}, ws[k]? = some (.int f) → ((i + k : Nat) : Int) ∈ numsFrom f i ws := by
  intro i ws k h
  obtain ⟨hk, e⟩ := List.getElem?_eq_some_iff.mp h
  have e1 : ws = ws.take k ++ [V.int f] ++ ws.drop (k + 1) := take_rest h
  have app : ∀ (us : List V) (vs : List V) (i : Nat), ∀ x ∈ numsFrom f i us, x ∈ numsFrom f i (us ++ vs) := fun us vs => by
    induction vs generalizing us with
    | nil => intro i x hx; rw [List.append_nil]; exact hx
    | cons v vs ih =>
      intro i x hx
      rw [show us ++ v :: vs = (us ++ [v]) ++ vs by simp]
      refine ih _ i x ?_
      rw [nums_snoc]
      exact List.mem_append_left _ hx
  rw [e1]
  refine app _ _ i _ ?_
  rw [nums_snoc, if_pos rfl, List.length_take, Nat.min_eq_left (by omega)]
  exact List.mem_append_right _ List.mem_cons_self
end FF
namespace FF
open PySem PySem.Spec PyProof.Rows L2
variable [LT]
/-! ### pushes -/
theorem nums_nd (f : Int) : ∀ (i : Nat) (ws : List V), (numsFrom f i ws).Nodup
  | _, [] => List.nodup_nil
  | i, x :: r => by
    show ((if x = V.int f then [(i : Int)] else []) ++ numsFrom f (i + 1) r).Nodup
    rw [List.nodup_append]
    refine ⟨by split <;> simp, nums_nd f (i + 1) r, fun a ha b hb z => ?_⟩
    have := nums_bd f (i + 1) r b hb
    split at ha
    · have := List.mem_singleton.mp ha
      omega
    · cases ha
open Classical in
noncomputable def joinB (ts : List (Int × Int)) (ws : List V) (e : Int × Int) : Bool := decide (foldR (fun x => x) (layerOf ts ws e.2) (ts.getD e.1.toNat (0, 0)).1 = foldR (fun x => x) (layerOf ts ws e.2) (ts.getD e.1.toNat (0, 0)).2)
/-- the tie x is on the ring of the entry e -/
def OnRing (ts : List (Int × Int)) (ws : List V) (e : Int × Int) (x : Int) : Prop := x ∈ numsFrom e.2 0 ws ∧ foldR (fun x => x) (pick ts (but x (numsFrom e.2 0 ws))) (ts.getD e.1.toNat (0, 0)).1 ≠ foldR (fun x => x) (pick ts (but x (numsFrom e.2 0 ws))) (ts.getD e.1.toNat (0, 0)).2
open Classical in
noncomputable def pushB (ts : List (Int × Int)) (ws : List V) : List (Int × Int) → Bool
  | [] => true
  | [e] => !joinB ts ws e
  | e :: e' :: r => (joinB ts ws e && decide (OnRing ts ws e e'.1)) && pushB ts ws (e' :: r)
def layB (ws : List V) (e : Int × Int) : Bool := decide (ws[e.1.toNat]? = some (.int e.2))
end FF
namespace FF
open PySem PySem.Spec PyProof.Rows L2
variable [LT]
/-! ### zip of a list and a tuple, either way -/
end FF
namespace FF
open PySem PySem.Spec PyProof.Rows L2
variable [LT]
/-! ### t.count of a tuple of ints; l[i] op= e -/
section
variable {X : Cx} {K : PySem.W.Frag}
end
/-! ### outs of ways -/
theorem ext_hat {as bs : List Int} (hl : as.length = bs.length) (h : ∀ x : Int, 0 ≤ x → x < as.length → hat as x = hat bs x) : as = bs := by
  refine List.ext_getElem hl fun i h1 h2 => ?_
  have := h (i : Int) (by omega) (by omega)
  unfold hat at this
  rw [Int.toNat_natCast, List.getD_eq_getElem?_getD, List.getD_eq_getElem?_getD, List.getElem?_eq_getElem h1, List.getElem?_eq_getElem h2] at this
  exact this
end FF
namespace FF
open PySem PySem.Spec PyProof.Rows L2
variable [LT]
/-! ### tuples that are known to the object: methods can be asked of them -/
def TF (H : Hp) (a : Addr) (xs : List V) : Prop := ∃ o : Obj, H a = some (.frz o (.tup xs)) ∧ o.dict = none
theorem TF.sq {K : PySem.W.Frag} {H : Hp} {a : Addr} {xs : List V} (h : TF H a xs) : SqT K H a xs := by
  obtain ⟨o, e, _⟩ := h
  exact .inl (.inr ⟨o, e⟩)
theorem TF.ke {H H' : Hp} {a : Addr} {xs : List V} (h : TF H a xs) (k : Ke H H') : TF H' a xs := by
  obtain ⟨o, e, d⟩ := h
  exact ⟨o, k.at_ a _ e (fun _ z => nomatch z) fun z => z, d⟩
theorem TF.new {H : Hp} {p a : Addr} {o : HO} {xs : List V} (h : TF H a xs) (k : H p = none) : TF (upd H p o) a xs := h.ke (Ke.new k)
theorem TF.dk {H H' : Hp} {p a : Addr} {xs : List V} (h : TF H a xs) (k : Dk p H H') (d : Deck H p) : TF H' a xs := by
  obtain ⟨o, e, d'⟩ := h
  obtain ⟨ds, e2, _⟩ := d
  exact ⟨o, k.k.at_ a _ e (fun _ z => nomatch z) (ne_of e e2 (fun z => nomatch z)), d'⟩
theorem TF.put {H : Hp} {p a : Addr} {o : HO} {xs ys : List V} (h : TF H a xs) (k : H p = some (.lst ys)) : TF (upd H p o) a xs := by
  obtain ⟨o, e, d'⟩ := h
  exact ⟨o, by rw [upd_ne (ne_of e k (fun z => nomatch z))]; exact e, d'⟩
theorem sqT_kx {S : Addr → Prop} {K : PySem.W.Frag} {H H' : Hp} {p : Addr} {xs : List V} (h : SqT K H p xs) (a : Kx S H H') (n : ¬ S p) : SqT K H' p xs := by
  rcases h with (h | ⟨o, h⟩) | h
  · exact .inl (.inl (a.at_ p _ h (fun _ z => nomatch z) n))
  · exact .inl (.inr ⟨o, a.at_ p _ h (fun _ z => nomatch z) n⟩)
  · exact .inr h
theorem sqT_ke {K : PySem.W.Frag} {H H' : Hp} {p : Addr} {xs : List V} (h : SqT K H p xs) (a : Ke H H') : SqT K H' p xs := sqT_kx h a fun z => z
section
variable {X : Cx} {K : PySem.W.Frag}
def rTupF (K : PySem.W.Frag) : List V → Hp → VK → Prop := fun xs H Q => ∃ p ys, xs = [.ref p] ∧ SqL K H p ys ∧ ∀ (l : Addr) (o : Obj), H l = none → o.dict = none → Q (.ref l) (upd H l (.frz o (.tup ys)))
theorem tupleF (h : X.K = K := by rfl) : CallR X (.type "tuple") (rTupF K) := by
  subst h
  intro pins s σ H xs us Q I r h
  obtain ⟨p, ys, rfl, hq, q⟩ := h
  obtain ⟨u, rfl, rx⟩ := vals1 r
  cases rx
  obtain ⟨its, r', pl, hz⟩ := I.list hq
  have hlen := r'.length
  refine call_tuple_list pl.isList (fun h' kp => ?_) (by simp only [List.size_toArray] <;> omega)
  have I1 : Inv X pins σ H { s with heap := h' } := I.kept (t' := s.toks) kp
  have I2 : Inv X pins σ (upd H h'.objs.size (.frz { cls := .type "tuple", data := .seq its.toArray } (.tup ys))) { s with heap := h'.push { cls := .type "tuple", data := .seq its.toArray } } :=
    I1.laid (t' := s.toks) (fun b o e => Heap.get?_push_of_some _ e) (Nat.le_refl _) (show ObjOk X.prog X.w _ _ _ (.frz _ (.tup ys)) from ⟨Heap.get?_push_size _ rfl, hz, its, r', IsTup.new _ _⟩)
  exact ⟨.ref h'.objs.size, _, I2, rfl, q _ _ (I1.hok.fresh (Nat.le_refl _)) rfl⟩
def tBMF (r : V → List V → Hp → VK → Prop) (to : TE) (t : TA) : TE := fun σ H Q => to σ H fun x H1 => (∃ a ys, x = .ref a ∧ TF H1 a ys) ∧ t σ H1 fun xs H2 => r x xs H2 Q
variable {o e : Expr} {es : List Expr} {to : TE} {t : TA} {name : Str} {apos cpos : Pos} {id : String} {r : V → List V → Hp → VK → Prop}
theorem pe_bmF (slot : Slot "tuple" name id) (hty : typeOf (.builtin id) = pure (.type "method_descriptor")) (hm : MtR X id r) (ho : PE X o to) (ha : PA X (e :: es) t)
    (hbase : attributeBase o name X.env (eval o X.env) = eval o X.env := by rfl)
    (hfew : ((backTo cpos (starEach (e :: es) X.env)).all (fun x => !x.1) && (backToKw cpos (keywordEach [] X.env)).all (fun x => x.1.isSome)
      && decide ((e :: es).length + ([] : List Keyword).length + (if ([] : List Keyword).isEmpty then 0 else 1) < 30)) = true := by rfl)
    (hline : (apos.endLine == cpos.line) = true := by rfl) (hs : starEach (e :: es) X.env = (false, eval e X.env) :: starEach es X.env := by rfl) (hplain : (backTo cpos (starEach es X.env)).any (·.1) = false := by rfl) :
    PE X (.Call (.Attribute o name apos) (e :: es) [] cpos) (tBMF r to t) := by
  refine ⟨fun pins s σ H Q I h => ?_⟩
  refine wpAny_Call_method_late hbase hfew hline rfl (thn (ho.run pins s σ H _ I h) fun v s1 ⟨x, H1, I1, r1, ty, q1⟩ => ?_)
  obtain ⟨a, ys, rfl, oo, hoo, hdn⟩ := ty
  cases r1
  obtain ⟨e0, _, its, rv, hT⟩ := I1.hok a _ hoo
  refine ⟨"tuple", id, PySem.F.plainAttrs_tuple, slot, hty, hT.typeIs, fun b eb => ?_, ?_⟩
  · cases eb
    exact ⟨oo, e0, hdn⟩
  have hA := ha.run cpos pins s1 σ H1 _ I1 q1
  rw [hs] at hA ⊢
  refine Calls.callWith_builtin (by show (false || (backTo cpos (starEach es X.env)).any (·.1)) = false; rw [hplain] <;> rfl) (Calls.evalArgs_plain ?_)
  exact thn hA fun us s2 ⟨vs, H2, I2, r2, q2⟩ => hm pins s2 σ H2 (.ref a) vs (.ref a) us Q I2 rfl r2 q2
end
/-! ### a thing: a tuple or not -/
inductive ThK (K : PySem.W.Frag) (H : Hp) : V → Option (List V) → Prop where
  | no {v : V} {nm : String} (h : TyN H v nm) (hn : nm ≠ "tuple") : ThK K H v none
  | yes {a : Addr} {xs : List V} (h : SqT K H a xs) (ht : TyX K H (.ref a) (.type "tuple")) (hx : ∀ x ∈ xs, ∃ n, TyN H x n) : ThK K H (.ref a) (some xs)
theorem Tpl.k {K : PySem.W.Frag} {H : Hp} {v : V} {o : Option (List V)} (h : Tpl H v o) : ThK K H v o := by
  cases h with
  | no h hn => exact .no h hn
  | yes h hx => exact .yes (sqT_of h) (TyN.tup h).x hx
theorem TF.k {K : PySem.W.Frag} {H : Hp} {a : Addr} {xs : List V} (h : TF H a xs) (hx : ∀ x ∈ xs, ∃ n, TyN H x n) : ThK K H (.ref a) (some xs) := by
  have h' := h.sq (K := K)
  obtain ⟨o, e, _⟩ := h
  exact .yes h' (.fTuple e) hx
theorem TF.ints {K : PySem.W.Frag} {H : Hp} {a : Addr} {ws : List Int} (h : TF H a (ws.map V.int)) : ThK K H (.ref a) (some (ws.map V.int)) := h.k (ty_ints ws)
theorem isi_no {K : PySem.W.Frag} {H : Hp} {v : V} {nm : String} (h : TyN H v nm) (hn : nm ≠ "tuple") : PySem.W.kitOne K (.type nm) (.type "tuple") = some false := by
  have := h.isi (K := K) (c := "tuple") (.inr (.inr (.inl rfl)))
  rw [this]
  cases h <;> first | rfl | exact absurd rfl hn
theorem isi_yes {K : PySem.W.Frag} : PySem.W.kitOne K (.type "tuple") (.type "tuple") = some true := kit_ty (by decide +kernel)
/-! ### ways as things -/
def crowdO (n : Int) (ts : List (Int × Int)) (d : Int) (o : Option (List V)) : Bool := lotO n o && match o with
  | some xs => decide ((inside (intsOf xs) ts : Int) > d * (xs.length : Int))
  | none => false
theorem Lot.crowd {n : Int} {ls : List Int} (h : Lot n ls) (ts : List (Int × Int)) (d : Int) : crowdO n ts d (some (ls.map V.int)) = decide ((inside ls ts : Int) > d * (ls.length : Int)) := by
  show (lotO n (some (ls.map V.int)) && decide ((inside (intsOf (ls.map V.int)) ts : Int) > d * ((ls.map V.int).length : Int))) = _
  rw [h.o, Bool.true_and, intsOf_map, List.length_map]
end FF
namespace FF
open PySem PySem.Spec PyProof.Rows L2
variable [LT]
/-! ### a def whose last parameter has a default -/
end FF
namespace FF
open PySem PySem.Spec PyProof.Rows L2
variable [LT]
/-! ### data of tuples, to a depth -/
theorem Sh.up {k l : Nat} {d : PyData} (h : Sh k d) (hk : k ≤ l) : Sh l d := ⟨h.1, Nat.le_trans h.2 hk⟩
/-! ### ties in another order -/
/-! ### partings as things -/
/-! ### the greatest of some -/
theorem tie_of {n a b : Int} (a0 : 0 ≤ a) (a1 : a < n) (b0 : 0 ≤ b) (b1 : b < n) (h : a ≠ b) : TOk n [(if b < a then b else a, if b > a then b else a)] := by
  intro t ht
  rw [List.mem_singleton.mp ht]
  dsimp only
  split <;> split <;> omega
end FF
namespace FF
open PySem PySem.Spec PyProof.Rows L2
variable [LT]
/-! ### how many are laid -/
end FF
namespace FF
open PySem PySem.Spec PyProof.Rows L2
variable [LT]
/-! ### rising tuples as things -/
/-! ### how many ties a forest has within a lot -/
theorem nub_glue {a b : Int} {hs : List Int} (ha : a ∈ hs) (hb : b ∈ hs) (h : a ≠ b) : (nub (hs.map fun x => if x = b then a else x)).length + 1 = (nub hs).length := by
  have e : (b :: nub (hs.map fun x => if x = b then a else x)).length = (nub hs).length := by
    refine nd_eq (List.nodup_cons.mpr ⟨fun z => ?_, nub_nd _⟩) (nub_nd _) fun x => ?_
    · rw [mem_nub] at z
      obtain ⟨y, hy, e⟩ := List.mem_map.mp z
      split at e
      · exact h e
      · rename_i hn
        exact hn e
    · rw [mem_nub, List.mem_cons, mem_nub]
      constructor
      · rintro (rfl | hx)
        · exact hb
        · obtain ⟨y, hy, e⟩ := List.mem_map.mp hx
          split at e
          · exact e ▸ ha
          · exact e ▸ hy
      · intro hx
        by_cases e : x = b
        · exact .inl e
        · exact .inr (List.mem_map.mpr ⟨x, hx, by rw [if_neg e]⟩)
  rw [← e, List.length_cons]
theorem lot_count {ls : List Int} : ∀ {ts : List (Int × Int)} {r : Int → Int}, ringlessF r ts = true → (∀ t ∈ ts, t.1 ∈ ls ∧ t.2 ∈ ls) → ts.length + (nub (ls.map (foldR r ts))).length = (nub (ls.map r)).length
  | [], r, _, _ => Nat.zero_add _
  | t :: ts, r, h, hm => by
    obtain ⟨h1, h2⟩ := hm t List.mem_cons_self
    have h : (if r t.1 = r t.2 then false else ringlessF (rstep r t) ts) = true := h
    have e : r t.1 ≠ r t.2 := fun z => by rw [if_pos z] at h; cases h
    rw [if_neg e] at h
    have hr := h
    have ih := lot_count (ls := ls) hr fun t' h' => hm t' (List.mem_cons_of_mem _ h')
    have g := nub_glue (hs := ls.map r) (List.mem_map.mpr ⟨_, h1, rfl⟩) (List.mem_map.mpr ⟨_, h2, rfl⟩) e
    have em : (ls.map r).map (fun x => if x = r t.2 then r t.1 else x) = ls.map (rstep r t) := by
      rw [List.map_map]
      rfl
    rw [em] at g
    have ih : ts.length + (nub (ls.map (foldR (rstep r t) ts))).length = (nub (ls.map (rstep r t))).length := ih
    show ts.length + 1 + (nub (ls.map (foldR (rstep r t) ts))).length = _
    omega
theorem lot_count_le {ls : List Int} {ts : List (Int × Int)} (h : ringlessF (fun x => x) ts = true) (hm : ∀ t ∈ ts, t.1 ∈ ls ∧ t.2 ∈ ls) (hn : ls.Nodup) (he : ls ≠ []) : ts.length + 1 ≤ ls.length := by
  have := lot_count h hm
  rw [List.map_id', nub_of_nd hn] at this
  have h1 : 0 < (nub (ls.map (foldR (fun x => x) ts))).length := by
    cases ls with
    | nil => exact absurd rfl he
    | cons x r =>
      have : foldR (fun x => x) ts x ∈ nub ((x :: r).map (foldR (fun x => x) ts)) := (mem_nub _ _).mpr List.mem_cons_self
      exact List.length_pos_of_mem this
  omega
theorem ringlessF_filter (p : Int × Int → Bool) {L : List (Int × Int)} (h : ringlessF (fun x => x) L = true) : ringlessF (fun x => x) (L.filter p) = true := by
  have hp : L.Perm (L.filter p ++ L.filter fun t => !p t) := (List.filter_append_perm p L).symm
  rw [ringlessF_perm hp] at h
  cases e : ringlessF (fun x => x) (L.filter p) with
  | true => rfl
  | false => rw [ringlessF_bad _ _ _ e] at h; cases h
/-- a forest has at most so many ties within a lot -/
theorem inside_forest {ls : List Int} {L : List (Int × Int)} (h : ringlessF (fun x => x) L = true) (hn : ls.Nodup) (he : ls ≠ []) : inside ls L + 1 ≤ ls.length := by
  refine lot_count_le (ringlessF_filter _ h) (fun t ht => ?_) hn he
  have := (List.mem_filter.mp ht).2
  rw [Bool.and_eq_true, decide_eq_true_eq, decide_eq_true_eq] at this
  exact this
end FF
namespace FF
open PySem PySem.Spec PyProof.Rows L2
variable [LT]
/-! ### laid ties, and how many of them lie within a lot -/
theorem atI_getD {xs : List V} {m : Int} (h0 : 0 ≤ m) (h1 : m < xs.length) : atI xs m = some (xs.getD m.toNat .non) := by
  obtain ⟨k, rfl⟩ : ∃ k : Nat, m = k := ⟨m.toNat, by omega⟩
  have hk : k < xs.length := by omega
  refine atI_nat ?_
  rw [Int.toNat_natCast, List.getD_eq_getElem?_getD, List.getElem?_eq_getElem hk]
  rfl
def laidM (ws : List V) (ms : List Int) : List Int := ms.filter fun m => !decide (ws.getD m.toNat .non = V.non)
def laidT (ts : List (Int × Int)) (ws : List V) : List (Int × Int) := ((ts.zip ws).filter fun p => !decide (p.2 = V.non)).map Prod.fst
theorem laidT_snoc {ts : List (Int × Int)} {ws : List V} (h : ts.length = ws.length) (t : Int × Int) (x : V) : laidT (ts ++ [t]) (ws ++ [x]) = laidT ts ws ++ if (!decide (x = V.non)) = true then [t] else [] := by
  unfold laidT
  rw [List.zip_append h, List.filter_append, List.map_append]
  congr 1
  show (List.filter (fun p : (Int × Int) × V => !decide (p.2 = V.non)) [(t, x)]).map Prod.fst = _
  rw [List.filter_cons]
  dsimp only
  split <;> rfl
theorem pick_laid {ts : List (Int × Int)} {ws : List V} (h : ws.length = ts.length) : ∀ i : Nat, i ≤ ts.length → pick ts (laidM ws (upTo i)) = laidT (ts.take i) (ws.take i)
  | 0, _ => rfl
  | i + 1, hi => by
    have ih := pick_laid h i (by omega)
    have e1 : ts[i]? = some (ts.getD i (0, 0)) := by rw [List.getD_eq_getElem?_getD, List.getElem?_eq_getElem (show i < ts.length by omega)]; rfl
    have e2 : ws[i]? = some (ws.getD i .non) := by rw [List.getD_eq_getElem?_getD, List.getElem?_eq_getElem (show i < ws.length by omega)]; rfl
    rw [take_next e1, take_next e2, laidT_snoc (by rw [List.length_take, List.length_take]; omega), ← ih]
    rw [show ((i + 1 : Nat) : Int) = (i : Int) + 1 by omega, upTo_snoc]
    unfold laidM
    rw [List.filter_append, pick_append]
    congr 1
    rw [List.filter_cons, Int.toNat_natCast]
    split
    · rw [List.filter_nil]
      rfl
    · rfl
theorem layerOf_cons (t : Int × Int) (ts : List (Int × Int)) (x : V) (ws : List V) (f : Int) : layerOf (t :: ts) (x :: ws) f = (if x = V.int f then [t] else []) ++ layerOf ts ws f := by
  unfold layerOf
  rw [List.zip_cons_cons, List.filter_cons]
  dsimp only
  by_cases e : x = V.int f
  · rw [if_pos e, if_pos (decide_eq_true e)]; rfl
  · rw [if_neg e, if_neg (by rw [decide_eq_false e]; decide)]; rfl
theorem laidT_cons (t : Int × Int) (ts : List (Int × Int)) (x : V) (ws : List V) : laidT (t :: ts) (x :: ws) = (if x = V.non then [] else [t]) ++ laidT ts ws := by
  unfold laidT
  rw [List.zip_cons_cons, List.filter_cons]
  dsimp only
  by_cases e : x = V.non
  · rw [if_pos e, if_neg (by rw [decide_eq_true e]; decide)]; rfl
  · rw [if_neg e, if_pos (by rw [decide_eq_false e]; rfl)]; rfl
theorem inside_app (ls : List Int) (ts us : List (Int × Int)) : inside ls (ts ++ us) = inside ls ts + inside ls us := by
  unfold inside
  rw [List.filter_append, List.length_append]
/-- the laid ties within a lot, forest by forest -/
theorem inside_laid {k : Int} (ls : List Int) : ∀ {ts : List (Int × Int)} {ws : List V}, ws.length = ts.length → (∀ x ∈ ws, x = V.non ∨ ∃ f, x = V.int f ∧ 0 ≤ f ∧ f < k) → (inside ls (laidT ts ws) : Int) = ((upTo k).map fun f => (inside ls (layerOf ts ws f) : Int)).sum
  | [], [], _, _ => by
    have : ∀ f ∈ upTo k, (fun f => (inside ls (layerOf [] [] f) : Int)) f = 0 := fun f _ => rfl
    exact (sum_zero _ this).symm
  | t :: ts, x :: ws, hl, hx => by
    have ih := inside_laid ls (ts := ts) (ws := ws) (Nat.succ.inj hl) fun y hy => hx y (List.mem_cons_of_mem _ hy)
    have e : (fun f => (inside ls (layerOf (t :: ts) (x :: ws) f) : Int)) = fun f => (inside ls (if x = V.int f then [t] else []) : Int) + (inside ls (layerOf ts ws f) : Int) := by
      funext f
      rw [layerOf_cons, inside_app, Int.natCast_add]
    rw [e, sum_add, laidT_cons, inside_app, Int.natCast_add, ih]
    congr 1
    rcases hx x List.mem_cons_self with rfl | ⟨f, rfl, f0, f1⟩
    · rw [if_pos rfl]
      refine (sum_zero _ fun f _ => ?_).symm
      rw [if_neg (fun z => nomatch z)]
      rfl
    · rw [if_neg (fun z => nomatch z)]
      rw [sum_one (m := f) _ (upTo_nd k) (upTo_mem.mpr ⟨f0, f1⟩) fun y _ hy => ?_]
      · rw [if_pos rfl]
      · rw [if_neg fun z => hy (V.int.inj z).symm]
        rfl
theorem sum_most {s : Int} {g : Int → Int} : ∀ {l : List Int}, (∀ x ∈ l, g x ≤ s) → (l.map g).sum ≤ l.length * s ∧ ((l.map g).sum = l.length * s ↔ ∀ x ∈ l, g x = s)
  | [], _ => by simp
  | x :: l, h => by
    obtain ⟨i1, i2⟩ := sum_most (l := l) fun y hy => h y (List.mem_cons_of_mem _ hy)
    have hx := h x List.mem_cons_self
    have e : ((x :: l).length : Int) * s = (l.length : Int) * s + s := by
      rw [List.length_cons, Int.natCast_add, Int.add_mul]
      show _ + 1 * s = _
      rw [Int.one_mul]
    rw [List.map_cons, List.sum_cons, e]
    generalize (l.length : Int) * s = c at *
    refine ⟨by omega, fun z y hy => ?_, fun z => ?_⟩
    · have h1 : (l.map g).sum = c := by omega
      rcases List.mem_cons.mp hy with rfl | hy
      · omega
      · exact i2.mp h1 y hy
    · have h1 := i2.mpr fun y hy => z y (List.mem_cons_of_mem _ hy)
      have h2 := z x List.mem_cons_self
      omega
/-- a laying's forests, and none beyond k -/
structure LayK (ts : List (Int × Int)) (k : Int) (ws : List V) : Prop where
  len : ws.length = ts.length
  each : ∀ x ∈ ws, x = V.non ∨ ∃ f, x = V.int f ∧ 0 ≤ f ∧ f < k
  tree : ∀ f, ringlessF (fun x => x) (layerOf ts ws f) = true
theorem LayK.isO {ts : List (Int × Int)} {k : Int} {ws : List V} (h : LayK ts k ws) : ∀ x ∈ ws, IsO x := fun x hx => (h.each x hx).elim .inl fun ⟨f, e, _⟩ => .inr ⟨f, e⟩
theorem LayK.more {ts : List (Int × Int)} {k k' : Int} {ws : List V} (h : LayK ts k ws) (hk : k ≤ k') : LayK ts k' ws := ⟨h.len, fun x hx => (h.each x hx).imp id fun ⟨f, e, f0, f1⟩ => ⟨f, e, f0, Int.lt_of_lt_of_le f1 hk⟩, h.tree⟩
theorem tight_iff {ts : List (Int × Int)} {k : Int} {ws : List V} (h : LayK ts k ws) (hk : 0 ≤ k) {ls : List Int} (hn : ls.Nodup) (he : ls ≠ []) : ((inside ls (laidT ts ws) : Int) = k * ((ls.length : Int) - 1)) ↔ ∀ f, 0 ≤ f → f < k → (inside ls (layerOf ts ws f) : Int) = (ls.length : Int) - 1 := by
  rw [inside_laid ls h.len h.each]
  have hm := sum_most (s := (ls.length : Int) - 1) (g := fun f => (inside ls (layerOf ts ws f) : Int)) (l := upTo k) fun f _ => by
    have := inside_forest (h.tree f) hn he
    show (inside ls (layerOf ts ws f) : Int) ≤ _
    omega
  have hl : ((upTo k).length : Int) = k := by rw [upTo_length]; omega
  rw [hl] at hm
  rw [hm.2]
  exact ⟨fun z f f0 f1 => z f (upTo_mem.mpr ⟨f0, f1⟩), fun z f hf => z f (upTo_mem.mp hf).1 (upTo_mem.mp hf).2⟩
/-! ### all lots -/
def lotsF : Nat → List (List Int)
  | 0 => [[]]
  | n + 1 => lotsF n ++ (lotsF n).map fun l => l ++ [(n : Int)]
theorem lotsF_ok : ∀ (n : Nat) (l : List Int), l ∈ lotsF n → l.Pairwise (· < ·) ∧ (∀ x ∈ l, 0 ≤ x ∧ x < (n : Int)) ∧ l.length ≤ n
  | 0, l, h => by
    rw [List.mem_singleton.mp h]
    exact ⟨.nil, (fun _ z => nomatch z), Nat.le_refl _⟩
  | n + 1, l, h => by
    rcases List.mem_append.mp (show l ∈ lotsF n ++ (lotsF n).map fun l => l ++ [(n : Int)] from h) with h | h
    · obtain ⟨h1, h2, h3⟩ := lotsF_ok n l h
      exact ⟨h1, fun x hx => by have := h2 x hx; omega, by omega⟩
    · obtain ⟨l', h', rfl⟩ := List.mem_map.mp h
      obtain ⟨h1, h2, h3⟩ := lotsF_ok n l' h'
      refine ⟨?_, fun x hx => ?_, by rw [List.length_append]; exact Nat.succ_le_succ h3⟩
      · rw [List.pairwise_append]
        exact ⟨h1, List.pairwise_singleton _ _, fun a ha b hb => by rw [List.mem_singleton.mp hb]; exact (h2 a ha).2⟩
      · rcases List.mem_append.mp hx with hx | hx
        · have := h2 x hx; omega
        · rw [List.mem_singleton.mp hx]; omega
theorem lotsF_all : ∀ (n : Nat) {l : List Int}, l.Pairwise (· < ·) → (∀ x ∈ l, 0 ≤ x ∧ x < (n : Int)) → l ∈ lotsF n
  | 0, l, _, h => by
    cases l with
    | nil => exact List.mem_singleton.mpr rfl
    | cons x r => have := h x List.mem_cons_self; omega
  | n + 1, l, hp, h => by
    show l ∈ lotsF n ++ (lotsF n).map fun l => l ++ [(n : Int)]
    by_cases hn : (n : Int) ∈ l
    · refine List.mem_append_right _ (List.mem_map.mpr ⟨l.filter fun x => decide (x < n), lotsF_all n (hp.filter _) (fun x hx => ?_), ?_⟩)
      · have h1 := (List.mem_filter.mp hx)
        have := of_decide_eq_true h1.2
        exact ⟨(h x h1.1).1, this⟩
      · refine up_same ?_ hp fun x => ?_
        · rw [List.pairwise_append]
          exact ⟨hp.filter _, List.pairwise_singleton _ _, fun a ha b hb => by rw [List.mem_singleton.mp hb]; exact of_decide_eq_true (List.mem_filter.mp ha).2⟩
        · rw [List.mem_append, List.mem_filter, List.mem_singleton, decide_eq_true_eq]
          constructor
          · rintro (⟨a, _⟩ | rfl)
            · exact a
            · exact hn
          · intro hx
            have := h x hx
            by_cases e : x = n
            · exact .inr e
            · exact .inl ⟨hx, by omega⟩
    · refine List.mem_append_left _ (lotsF_all n hp fun x hx => ?_)
      have := h x hx
      have : x ≠ n := fun z => hn (z ▸ hx)
      omega
theorem ringlessF_sub {L L' : List (Int × Int)} (s : L'.Sublist L) (h : ringlessF (fun x => x) L = true) : ringlessF (fun x => x) L' = true := by
  obtain ⟨r, hp⟩ := s.exists_perm_append
  rw [ringlessF_perm hp] at h
  cases e : ringlessF (fun x => x) L' with
  | true => rfl
  | false => rw [ringlessF_bad _ _ _ e] at h; cases h
theorem Laid.k {ts : List (Int × Int)} {m : Int} {ws : List V} (h : Laid ts m ws) : LayK ts m ws := ⟨h.len, fun x hx => .inr (h.num x hx), h.tree⟩
theorem layerOf_nons (ts : List (Int × Int)) (f : Int) : ∀ m : Nat, layerOf ts (List.replicate m .non) f = [] := fun m => by
  unfold layerOf
  rw [List.map_eq_nil_iff, List.filter_eq_nil_iff]
  intro p hp
  have := (List.of_mem_zip (a := p.1) (b := p.2) hp).2
  rw [List.eq_of_mem_replicate this]
  exact fun z => nomatch of_decide_eq_true z
theorem LayK.none (ts : List (Int × Int)) {k : Int} : LayK ts k (List.replicate ts.length .non) := ⟨List.length_replicate, fun x hx => .inl (List.eq_of_mem_replicate hx), fun f => by rw [layerOf_nons]; rfl⟩
theorem Lot.nd {n : Int} {ls : List Int} (h : Lot n ls) : ls.Nodup := h.up.imp fun z => by omega
end FF
namespace FF
open PySem PySem.Spec PyProof.Rows L2
variable [LT]
/-! ### trees -/
theorem LayK.o {ts : List (Int × Int)} {k : Int} {ws : List V} (h : LayK ts k ws) : layO ts k (some ws) = true := layO_good h.len (fun x hx => by
  rcases h.each x hx with rfl | ⟨f, rfl, f0, f1⟩
  · rfl
  · show (decide (0 ≤ f) && decide (f ≤ k - 1)) = true
    rw [decide_eq_true f0, decide_eq_true (by omega : f ≤ k - 1)]; rfl) fun f _ => h.tree f
/-! ### ties with their forests -/
/-! ### rows of a tie and its forest, in the heap -/
theorem paired_get {α β : Type} {R : α → β → Prop} : ∀ {xs : List α} {ys : List β} {i : Nat} {x : α}, Paired R xs ys → xs[i]? = some x → ∃ y, ys[i]? = some y ∧ R x y
  | _, _, _, _, .nil, e => by simp at e
  | _, _, 0, _, .cons (b := y) h _, e => by simp at e; subst e; exact ⟨y, rfl, h⟩
  | _, _, i + 1, x, .cons _ t, e => by
    obtain ⟨y, h1, h2⟩ := paired_get (i := i) (x := x) t (by simpa using e)
    exact ⟨y, by simpa using h1, h2⟩
end FF
namespace FF
open PySem PySem.Spec PyProof.Rows L2
variable [LT]
theorem LayK.nil {k : Int} : LayK [] k [] := ⟨rfl, (fun _ z => nomatch z), fun _ => rfl⟩
section
variable {X : Cx} {K : PySem.W.Frag} {a b : Expr} {ta tb : TE} {rest : List Expr} {pos : Pos}
end
theorem zip_erase {α β : Type} : ∀ (xs : List α) (ys : List β) (g : Nat), xs.length = ys.length → (xs.eraseIdx g).zip (ys.eraseIdx g) = (xs.zip ys).eraseIdx g
  | [], [], _, _ => rfl
  | x :: xs, y :: ys, 0, _ => rfl
  | x :: xs, y :: ys, g + 1, h => by
    show (x, y) :: (xs.eraseIdx g).zip (ys.eraseIdx g) = (x, y) :: (xs.zip ys).eraseIdx g
    rw [zip_erase xs ys g (Nat.succ.inj h)]
  | [], _ :: _, _, h => by cases h
  | _ :: _, [], _, h => by cases h
theorem LayK.erase {ts : List (Int × Int)} {k : Int} {ws : List V} (h : LayK ts k ws) {g : Nat} (hg : g < ts.length) : LayK (ts.eraseIdx g) k (ws.eraseIdx g) := by
  have hl := h.len
  refine ⟨by rw [List.length_eraseIdx, List.length_eraseIdx, if_pos hg, if_pos (by omega), hl], fun x hx => h.each x (List.mem_of_mem_eraseIdx hx), fun f => ringlessF_sub ?_ (h.tree f)⟩
  unfold layerOf
  rw [zip_erase ts ws g hl.symm]
  exact ((List.eraseIdx_sublist _ _).filter _).map _
theorem Ties.erase {H : Hp} : ∀ {rs : List V} {ts : List (Int × Int)} (g : Nat), Ties H rs ts → Ties H (rs.eraseIdx g) (ts.eraseIdx g)
  | _, _, _, .nil => .nil
  | _, _, 0, .cons _ t => t
  | _, _, g + 1, .cons h t => .cons h (Ties.erase g t)
end FF
namespace FF
open PySem PySem.Spec PyProof.Rows L2
variable [LT]
/-! ### exchanges in forests -/
abbrev tk (ts : List (Int × Int)) (a : Int) : Int × Int := ts.getD a.toNat (0, 0)
abbrev jn (ts : List (Int × Int)) (ms : List Int) (x y : Int) : Prop := foldR (fun x => x) (pick ts ms) x = foldR (fun x => x) (pick ts ms) y
theorem way_of {ts : List (Int × Int)} : ∀ (n : Nat) (ms : List Int), ms.length = n → ms.Nodup → ∀ x y, jn ts ms x y → ∃ ns, Way ts x ns y ∧ ns.Nodup ∧ ∀ m ∈ ns, m ∈ ms
  | 0, ms, hl, _, x, y, h => by
    have : ms = [] := List.length_eq_zero_iff.mp hl
    subst this
    have h : x = y := h
    subst h
    exact ⟨[], .nil x, List.nodup_nil, fun _ z => nomatch z⟩
  | n + 1, ms, hl, hnd, x, y, h => by
    have hne : ms ≠ [] := fun z => by rw [z] at hl; cases hl
    obtain ⟨is, m, rfl⟩ : ∃ is m, ms = is ++ [m] := ⟨ms.dropLast, ms.getLast hne, (List.dropLast_concat_getLast hne).symm⟩
    have hnd' := List.nodup_append.mp hnd
    have hmi : m ∉ is := fun z => hnd'.2.2 m z m List.mem_cons_self rfl
    have hil : is.length = n := by rw [List.length_append] at hl; exact Nat.succ.inj hl
    have ih := way_of (ts := ts) n is hil hnd'.1
    by_cases c : jn ts is x y
    · obtain ⟨ns, w, nd, hm⟩ := ih x y c
      exact ⟨ns, w, nd, fun k hk => List.mem_append_left _ (hm k hk)⟩
    have e : foldR (fun x => x) (pick ts (is ++ [m])) = rstep (foldR (fun x => x) (pick ts is)) (tk ts m) := by rw [pick_append]; exact foldR_snoc _ _ _
    unfold jn at h
    rw [e] at h
    -- a way over m
    have go : ∀ u v p q, jn ts is u p → jn ts is q v → ¬ jn ts is u v → Leads ts m p q → ∃ ns, Way ts u ns v ∧ ns.Nodup ∧ ∀ k ∈ ns, k ∈ is ++ [m] := fun u v p q h1 h2 h3 hL => by
      obtain ⟨n1, w1, d1, s1⟩ := ih u p h1
      obtain ⟨n2, w2, d2, s2⟩ := ih q v h2
      refine ⟨n1 ++ m :: n2, w1.append (.cons hL w2), ?_, fun k hk => ?_⟩
      · rw [List.nodup_append, List.nodup_cons]
        refine ⟨d1, ⟨fun z => hmi (s2 m z), d2⟩, fun a ha b hb => ?_⟩
        rcases List.mem_cons.mp hb with rfl | hb
        · exact fun z => hmi (z ▸ s1 a ha)
        · rintro rfl
          obtain ⟨l1, l2, u1, v1, el, x1, x2, x3⟩ := w1.cut ha
          obtain ⟨k1, k2, u2, v2, ek, z1, z2, z3⟩ := w2.cut hb
          have e1 : jn ts is u u1 := x1.joined fun k hk => s1 k (by rw [el]; exact List.mem_append_left _ hk)
          have e2 : jn ts is v2 v := z3.joined fun k hk => s2 k (by rw [ek]; exact List.mem_append_right _ (List.mem_cons_of_mem _ hk))
          have e3 : jn ts is u2 v2 := z2.foldR (s2 a hb)
          have e4 : jn ts is u1 v1 := x2.foldR (s1 a ha)
          have e5 : jn ts is u1 v2 := by
            rcases x2 with x2 | x2 <;> rcases z2 with z2 | z2 <;> rw [x2] at z2
            · cases z2; exact e4
            · have := Prod.mk.inj z2; rw [this.1]
            · have := Prod.mk.inj z2; rw [← this.2]
            · cases z2; exact e4
          exact h3 (e1.trans (e5.trans e2))
      · rcases List.mem_append.mp hk with hk | hk
        · exact List.mem_append_left _ (s1 k hk)
        · rcases List.mem_cons.mp hk with rfl | hk
          · exact List.mem_append_right _ List.mem_cons_self
          · exact List.mem_append_left _ (s2 k hk)
    have h : (if foldR (fun x => x) (pick ts is) x = foldR (fun x => x) (pick ts is) (tk ts m).2 then foldR (fun x => x) (pick ts is) (tk ts m).1 else foldR (fun x => x) (pick ts is) x) = (if foldR (fun x => x) (pick ts is) y = foldR (fun x => x) (pick ts is) (tk ts m).2 then foldR (fun x => x) (pick ts is) (tk ts m).1 else foldR (fun x => x) (pick ts is) y) := h
    by_cases c1 : jn ts is x (tk ts m).2
    · by_cases c2 : jn ts is y (tk ts m).2
      · exact absurd (c1.trans c2.symm) c
      · rw [if_pos c1, if_neg c2] at h
        exact go x y (tk ts m).2 (tk ts m).1 c1 h c (.inr rfl)
    · by_cases c2 : jn ts is y (tk ts m).2
      · rw [if_neg c1, if_pos c2] at h
        exact go x y (tk ts m).1 (tk ts m).2 h c2.symm c (.inl rfl)
      · rw [if_neg c1, if_neg c2] at h
        exact absurd h c
theorem ring_exists {ts : List (Int × Int)} {ms : List Int} (hn : ms.Nodup) {x y : Int} (h : jn ts ms x y) : ∃ ns, IsRing ts ms x y ns := by
  obtain ⟨ns, w, nd, hm⟩ := way_of _ ms rfl hn x y h
  exact ⟨ns, w, nd, hm⟩
/-- a forest: its ties by their numbers -/
structure Fo (ts : List (Int × Int)) (ms : List Int) : Prop where
  nd : ms.Nodup
  rl : ringlessF (fun x => x) (pick ts ms) = true
/-- x is on the ring that a closes in ms -/
def OnR (ts : List (Int × Int)) (ms : List Int) (a x : Int) : Prop := x ∈ ms ∧ ¬ jn ts (but x ms) (tk ts a).1 (tk ts a).2
theorem Fo.same {ts : List (Int × Int)} {ms ns : List Int} (h : Fo ts ms) (hn : ns.Nodup) (hm : ∀ x, x ∈ ns ↔ x ∈ ms) : Fo ts ns := by
  have p : ns.Perm ms := (List.perm_ext_iff_of_nodup hn h.nd).mpr hm
  refine ⟨hn, ?_⟩
  exact (ringlessF_perm (show (pick ts ns).Perm (pick ts ms) from p.map _) _).trans h.rl
theorem Fo.but {ts : List (Int × Int)} {ms : List Int} (h : Fo ts ms) (b : Int) : Fo ts (but b ms) :=
  ⟨h.nd.filter _, ringlessF_sub (List.filter_sublist.map _) h.rl⟩
theorem Fo.add {ts : List (Int × Int)} {ms : List Int} {a : Int} (h : Fo ts ms) (ha : a ∉ ms) (hj : ¬ jn ts ms (tk ts a).1 (tk ts a).2) : Fo ts (ms ++ [a]) := by
  refine ⟨?_, ?_⟩
  · rw [List.nodup_append]
    exact ⟨h.nd, by simp, fun x hx y hy => by rw [List.mem_singleton.mp hy]; exact fun z => ha (z ▸ hx)⟩
  · rw [pick_append]
    show ringlessF _ (pick ts ms ++ [tk ts a]) = true
    rw [ringlessF_more h.rl, decide_eq_false hj]
    rfl
theorem jn_sub {ts : List (Int × Int)} {ms ns : List Int} (h : ∀ x ∈ ms, x ∈ ns) {x y : Int} (hj : jn ts ms x y) : jn ts ns x y := foldR_sub (fun t ht => by
  obtain ⟨m, hm, rfl⟩ := List.mem_map.mp ht
  exact List.mem_map.mpr ⟨m, h m hm, rfl⟩) x y hj
theorem OnR.not_in {ts : List (Int × Int)} {ms : List Int} {a b : Int} (h : OnR ts ms a b) (ha : a ∉ ms) : a ∉ FF.but b ms := fun z => ha (mem_but.mp z).1
theorem Fo.swap {ts : List (Int × Int)} {ms : List Int} {a b : Int} (h : Fo ts ms) (ha : a ∉ ms) (hb : OnR ts ms a b) : Fo ts (FF.but b ms ++ [a]) := (h.but b).add (hb.not_in ha) hb.2
/-- the ring of another tie stays, if what goes is not on it -/
theorem ring_stays {ts : List (Int × Int)} {ms ns : List Int} {a : Int} (h : Fo ts ms) (h' : Fo ts ns) (hj : jn ts ms (tk ts a).1 (tk ts a).2) (hs : ∀ x, OnR ts ms a x → x ∈ ns) : jn ts ns (tk ts a).1 (tk ts a).2 ∧ ∀ x, OnR ts ns a x ↔ OnR ts ms a x := by
  obtain ⟨rs, hR⟩ := ring_exists h.nd hj
  have h1 := hR.mem_iff h.rl h.nd
  have hR' : IsRing ts ns (tk ts a).1 (tk ts a).2 rs := ⟨hR.way, hR.nd, fun m hm => hs m ((h1 m).mp hm)⟩
  have h2 := hR'.mem_iff h'.rl h'.nd
  exact ⟨hR'.way.joined hR'.mem, fun x => (h2 x).symm.trans (h1 x)⟩
theorem OnR.jn {ts : List (Int × Int)} {ms : List Int} {a b : Int} (_ : OnR ts ms a b) (hj : jn ts ms (tk ts a).1 (tk ts a).2) : FF.jn ts ms (tk ts a).1 (tk ts a).2 := hj
/-- several exchanges one after another: each next pair of the list comes earlier in the row -/
theorem Fo.swaps {ts : List (Int × Int)} : ∀ (ps : List (Int × Int)) {ms : List Int}, Fo ts ms → (ps.map Prod.fst).Nodup → (∀ p ∈ ps, p.1 ∉ ms ∧ FF.jn ts ms (tk ts p.1).1 (tk ts p.1).2 ∧ OnR ts ms p.1 p.2) → ps.Pairwise (fun p q => ¬ OnR ts ms q.1 p.2) → ∃ ns, Fo ts ns ∧ ∀ x, x ∈ ns ↔ (x ∈ ms ∧ x ∉ ps.map Prod.snd) ∨ x ∈ ps.map Prod.fst
  | [], ms, h, _, _, _ => ⟨ms, h, fun x => by simp⟩
  | (a, b) :: ps, ms, h, hnd, hp, hw => by
    obtain ⟨ha, hj, hb⟩ := hp (a, b) List.mem_cons_self
    obtain ⟨w1, w2⟩ := List.pairwise_cons.mp hw
    obtain ⟨n1, n2⟩ := List.nodup_cons.mp (show (a :: ps.map Prod.fst).Nodup from hnd)
    have h' := h.swap ha hb
    have keep : ∀ p ∈ ps, FF.jn ts (FF.but b ms ++ [a]) (tk ts p.1).1 (tk ts p.1).2 ∧ ∀ x, OnR ts (FF.but b ms ++ [a]) p.1 x ↔ OnR ts ms p.1 x := fun p hpm => by
      obtain ⟨_, hj', _⟩ := hp p (List.mem_cons_of_mem _ hpm)
      refine ring_stays h h' hj' fun x hx => List.mem_append_left _ (mem_but.mpr ⟨hx.1, fun z => w1 p hpm (z ▸ hx)⟩)
    obtain ⟨ns, hF, hm⟩ := Fo.swaps ps h' n2 (fun p hpm => by
      obtain ⟨p1, p2, p3⟩ := hp p (List.mem_cons_of_mem _ hpm)
      obtain ⟨k1, k2⟩ := keep p hpm
      refine ⟨fun z => ?_, k1, (k2 _).mpr p3⟩
      rcases List.mem_append.mp z with z | z
      · exact p1 (mem_but.mp z).1
      · exact n1 (List.mem_map.mpr ⟨p, hpm, List.mem_singleton.mp z⟩)) (w2.imp_of_mem fun {p q} hpm hqm hpq => fun z => hpq (((keep q hqm).2 _).mp z))
    refine ⟨ns, hF, fun x => ?_⟩
    rw [hm x, List.mem_append, mem_but, List.mem_singleton, List.map_cons, List.map_cons, List.mem_cons, List.mem_cons]
    constructor
    · rintro (⟨⟨x1, x2⟩ | x1, x3⟩ | x1)
      · exact .inl ⟨x1, fun z => z.elim x2 x3⟩
      · exact .inr (.inl x1)
      · exact .inr (.inr x1)
    · rintro (⟨x1, x2⟩ | x1 | x1)
      · exact .inl ⟨.inl ⟨x1, fun z => x2 (.inl z)⟩, fun z => x2 (.inr z)⟩
      · refine .inl ⟨.inr x1, fun z => ?_⟩
        obtain ⟨p, hpm, e⟩ := List.mem_map.mp z
        have := (hp p (List.mem_cons_of_mem _ hpm)).2.2.1
        rw [e, x1] at this
        exact ha this
      · exact .inr x1
end FF
namespace FF
open PySem PySem.Spec PyProof.Rows L2
variable [LT]
/-- a laying after pushes -/
def pushL (ws : List V) (es : List (Int × Int)) : List V := es.foldl (fun w e => w.set e.1.toNat (.int e.2)) ws
theorem pushL_length (es : List (Int × Int)) : ∀ ws : List V, (pushL ws es).length = ws.length := by
  induction es with
  | nil => exact fun _ => rfl
  | cons e es ih => exact fun ws => (ih _).trans List.length_set
theorem nums_iff {f : Int} {ws : List V} {x : Int} : x ∈ numsFrom f 0 ws ↔ 0 ≤ x ∧ ws[x.toNat]? = some (.int f) := by
  constructor
  · intro h
    obtain ⟨k, e, hk⟩ := nums_at h
    have := nums_bd f 0 ws x h
    rw [show x.toNat = k by omega]
    exact ⟨by omega, hk⟩
  · rintro ⟨h0, h⟩
    have := mem_nums (i := 0) h
    rw [Nat.zero_add, Int.toNat_of_nonneg h0] at this
    exact this
theorem fo_nums {ts : List (Int × Int)} {ws : List V} {f : Int} (hl : ws.length = ts.length) : Fo ts (numsFrom f 0 ws) ↔ ringlessF (fun x => x) (layerOf ts ws f) = true := by
  have e : pick ts (numsFrom f 0 ws) = layerOf ts ws f := pick_nums f [] ts ws hl.symm
  exact ⟨fun h => by rw [← e]; exact h.rl, fun h => ⟨nums_nd f 0 ws, by rw [e]; exact h⟩⟩
theorem jn_join {ts : List (Int × Int)} {ws : List V} {e : Int × Int} (hl : ws.length = ts.length) : joinB ts ws e = true ↔ jn ts (numsFrom e.2 0 ws) (tk ts e.1).1 (tk ts e.1).2 := by
  unfold joinB jn
  rw [decide_eq_true_eq, show pick ts (numsFrom e.2 0 ws) = layerOf ts ws e.2 from pick_nums e.2 [] ts ws hl.symm]
/-! ### what a row without short cuts makes of a laying -/
theorem pushL_in : ∀ (es : List (Int × Int)) {ws : List V} {e : Int × Int}, (es.map Prod.fst).Nodup → (∀ e ∈ es, 0 ≤ e.1 ∧ e.1 < (ws.length : Int)) → e ∈ es → (pushL ws es)[e.1.toNat]? = some (.int e.2)
  | d :: es, ws, e, hn, hb, he => by
    obtain ⟨n1, n2⟩ := List.nodup_cons.mp (show (d.1 :: es.map Prod.fst).Nodup from hn)
    show (pushL (ws.set d.1.toNat (.int d.2)) es)[e.1.toNat]? = _
    have hb' : ∀ e ∈ es, 0 ≤ e.1 ∧ e.1 < ((ws.set d.1.toNat (.int d.2)).length : Int) := fun e' h' => by rw [List.length_set]; exact hb e' (List.mem_cons_of_mem _ h')
    rcases List.mem_cons.mp he with rfl | he
    · rw [pushL_out es (fun z => n1 z) hb' (hb e List.mem_cons_self).1]
      have := hb e List.mem_cons_self
      exact List.getElem?_set_self (by omega)
    · exact pushL_in es n2 hb' he
where
  pushL_out : ∀ (es : List (Int × Int)) {ws : List V} {x : Int}, x ∉ es.map Prod.fst → (∀ e ∈ es, 0 ≤ e.1 ∧ e.1 < (ws.length : Int)) → 0 ≤ x → (pushL ws es)[x.toNat]? = ws[x.toNat]?
    | [], _, _, _, _, _ => rfl
    | d :: es, ws, x, hx, hb, x0 => by
      have hx : x ∉ d.1 :: es.map Prod.fst := hx
      have h1 : x ≠ d.1 := fun z => hx (by rw [z]; exact List.mem_cons_self)
      have h2 : x ∉ es.map Prod.fst := fun z => hx (List.mem_cons_of_mem _ z)
      show (pushL (ws.set d.1.toNat (.int d.2)) es)[x.toNat]? = _
      rw [pushL_out es h2 (fun e' h' => by rw [List.length_set]; exact hb e' (List.mem_cons_of_mem _ h')) x0]
      have := (hb d List.mem_cons_self).1
      exact List.getElem?_set_ne (by omega)
def pairsF (f : Int) : List (Int × Int) → List (Int × Int)
  | e :: e' :: r => (if e.2 = f then [(e.1, e'.1)] else []) ++ pairsF f (e' :: r)
  | _ => []
/-- no short cut -/
def NoCut (ts : List (Int × Int)) (ws : List V) : List (Int × Int) → Prop
  | [] => True
  | e :: r => (∀ q ∈ r.tail, ¬ OnRing ts ws e q.1) ∧ NoCut ts ws r
theorem pairs_snd {f : Int} : ∀ {e : Int × Int} {r : List (Int × Int)} {p : Int × Int}, p ∈ pairsF f (e :: r) → ∃ q ∈ r, q.1 = p.2
  | e, e' :: r, p, h => by
    rcases List.mem_append.mp (show p ∈ (if e.2 = f then [(e.1, e'.1)] else []) ++ pairsF f (e' :: r) from h) with h | h
    · split at h
      · rw [List.mem_singleton.mp h]
        exact ⟨e', List.mem_cons_self, rfl⟩
      · cases h
    · obtain ⟨q, hq, e⟩ := pairs_snd h
      exact ⟨q, List.mem_cons_of_mem _ hq, e⟩
theorem pairs_fst {f : Int} : ∀ {es : List (Int × Int)}, ((pairsF f es).map Prod.fst).Sublist (es.map Prod.fst)
  | [] => .refl _
  | [e] => List.nil_sublist _
  | e :: e' :: r => by
    have ih := pairs_fst (f := f) (es := e' :: r)
    show (((if e.2 = f then [(e.1, e'.1)] else []) ++ pairsF f (e' :: r)).map Prod.fst).Sublist (e.1 :: (e' :: r).map Prod.fst)
    rw [List.map_append]
    split
    · exact ih.cons₂ _
    · exact ih.cons _
theorem pairs_ok {ts : List (Int × Int)} {ws : List V} {f : Int} (hl : ws.length = ts.length) : ∀ {es : List (Int × Int)}, pushB ts ws es = true → ∀ p ∈ pairsF f es, (p.1, f) ∈ es ∧ jn ts (numsFrom f 0 ws) (tk ts p.1).1 (tk ts p.1).2 ∧ OnR ts (numsFrom f 0 ws) p.1 p.2
  | e :: e' :: r, h, p, hp => by
    have h : ((joinB ts ws e && @decide (OnRing ts ws e e'.1) (Classical.propDecidable _)) && pushB ts ws (e' :: r)) = true := h
    rw [Bool.and_eq_true, Bool.and_eq_true] at h
    obtain ⟨⟨h1, h2⟩, h3⟩ := h
    rcases List.mem_append.mp (show p ∈ (if e.2 = f then [(e.1, e'.1)] else []) ++ pairsF f (e' :: r) from hp) with hp | hp
    · split at hp
      · rename_i ef
        rw [List.mem_singleton.mp hp]
        subst ef
        exact ⟨List.mem_cons_self, (jn_join hl).mp h1, @of_decide_eq_true _ (Classical.propDecidable _) h2⟩
      · cases hp
    · obtain ⟨a, b, c⟩ := pairs_ok hl h3 p hp
      exact ⟨List.mem_cons_of_mem _ a, b, c⟩
theorem pairs_apart {ts : List (Int × Int)} {ws : List V} {f : Int} : ∀ {es : List (Int × Int)}, NoCut ts ws es → (pairsF f es).Pairwise fun p q => ¬ OnR ts (numsFrom f 0 ws) p.1 q.2
  | [], _ => .nil
  | [e], _ => .nil
  | e :: e' :: r, h => by
    have ih := pairs_apart (f := f) (es := e' :: r) h.2
    show ((if e.2 = f then [(e.1, e'.1)] else []) ++ pairsF f (e' :: r)).Pairwise _
    rw [List.pairwise_append]
    refine ⟨by split <;> simp, ih, fun p hp q hq => ?_⟩
    split at hp
    · rename_i ef
      rw [List.mem_singleton.mp hp]
      obtain ⟨q', hq', e2⟩ := pairs_snd hq
      subst ef
      have := h.1 q' hq'
      rw [e2] at this
      exact this
    · cases hp
theorem pairs_has {f : Int} : ∀ {es : List (Int × Int)} {e : Int × Int}, e ∈ es → e.2 = f → (∃ b, (e.1, b) ∈ pairsF f es) ∨ es.getLast? = some e
  | [d], e, he, _ => .inr (by rw [List.mem_singleton.mp he]; rfl)
  | d :: d' :: r, e, he, ef => by
    rcases List.mem_cons.mp he with rfl | he
    · refine .inl ⟨d'.1, ?_⟩
      show (e.1, d'.1) ∈ (if e.2 = f then [(e.1, d'.1)] else []) ++ pairsF f (d' :: r)
      rw [if_pos ef]
      exact List.mem_cons_self
    · rcases pairs_has he ef with ⟨b, hb⟩ | h
      · exact .inl ⟨b, List.mem_append_right _ hb⟩
      · exact .inr (by rw [List.getLast?_cons_cons]; exact h)
/-- what is pushed away from a forest -/
theorem pairs_gone {ts : List (Int × Int)} {ws : List V} {f : Int} : ∀ {e : Int × Int} {r : List (Int × Int)}, pushB ts ws (e :: r) = true → ∀ q ∈ r, q.1 ∈ numsFrom f 0 ws → q.1 ∈ (pairsF f (e :: r)).map Prod.snd
  | e, e' :: r, h, q, hq, hm => by
    have h : ((joinB ts ws e && @decide (OnRing ts ws e e'.1) (Classical.propDecidable _)) && pushB ts ws (e' :: r)) = true := h
    rw [Bool.and_eq_true, Bool.and_eq_true] at h
    obtain ⟨⟨h1, h2⟩, h3⟩ := h
    show q.1 ∈ (((if e.2 = f then [(e.1, e'.1)] else []) ++ pairsF f (e' :: r)).map Prod.snd)
    rw [List.map_append, List.mem_append]
    rcases List.mem_cons.mp hq with rfl | hq
    · have h2 : OnRing ts ws e q.1 := @of_decide_eq_true _ (Classical.propDecidable _) h2
      have a := (nums_iff.mp h2.1).2
      have b := (nums_iff.mp hm).2
      rw [a] at b
      have ef : e.2 = f := V.int.inj (Option.some.inj b)
      rw [if_pos ef]
      exact .inl List.mem_cons_self
    · exact .inr (pairs_gone h3 q hq hm)
theorem push_last {ts : List (Int × Int)} {ws : List V} : ∀ {es : List (Int × Int)} {e : Int × Int}, pushB ts ws es = true → es.getLast? = some e → joinB ts ws e = false
  | [d], e, h, hl => by
    have h : (!joinB ts ws d) = true := h
    have : d = e := Option.some.inj hl
    subst this
    cases e : joinB ts ws d with
    | false => rfl
    | true => rw [e] at h; cases h
  | d :: d' :: r, e, h, hl => by
    have h : ((joinB ts ws d && @decide (OnRing ts ws d d'.1) (Classical.propDecidable _)) && pushB ts ws (d' :: r)) = true := h
    rw [Bool.and_eq_true] at h
    rw [List.getLast?_cons_cons] at hl
    exact push_last h.2 hl
theorem pairs_not_last {f : Int} : ∀ {es : List (Int × Int)} {p e : Int × Int}, (es.map Prod.fst).Nodup → p ∈ pairsF f es → es.getLast? = some e → p.1 ≠ e.1
  | d :: d' :: r, p, e, hn, hp, hl => by
    obtain ⟨n1, n2⟩ := List.nodup_cons.mp (show (d.1 :: (d' :: r).map Prod.fst).Nodup from hn)
    rw [List.getLast?_cons_cons] at hl
    rcases List.mem_append.mp (show p ∈ (if d.2 = f then [(d.1, d'.1)] else []) ++ pairsF f (d' :: r) from hp) with hp | hp
    · split at hp
      · rw [List.mem_singleton.mp hp]
        exact fun z => n1 (List.mem_map.mpr ⟨e, List.mem_of_getLast? hl, z.symm⟩)
      · cases hp
    · exact pairs_not_last n2 hp hl
/-- a row of pushes without short cuts leaves no ring -/
theorem row_lays {ts : List (Int × Int)} {ws : List V} {e0 : Int × Int} {r : List (Int × Int)} (hl : ws.length = ts.length) (hf : ∀ f, ringlessF (fun x => x) (layerOf ts ws f) = true) (hn : ((e0 :: r).map Prod.fst).Nodup) (hb : ∀ e ∈ e0 :: r, 0 ≤ e.1 ∧ e.1 < (ts.length : Int)) (hlay : ∀ e ∈ e0 :: r, layB ws e = false) (hp : pushB ts ws (e0 :: r) = true) (h0 : ws[e0.1.toNat]? = some .non) (hc : NoCut ts ws (e0 :: r)) (f : Int) : ringlessF (fun x => x) (layerOf ts (pushL ws (e0 :: r)) f) = true := by
  have hb' : ∀ e ∈ e0 :: r, 0 ≤ e.1 ∧ e.1 < (ws.length : Int) := fun e he => by rw [hl]; exact hb e he
  rw [← fo_nums ((pushL_length _ _).trans hl)]
  have hF := (fo_nums hl).mpr (hf f)
  have hout : ∀ e ∈ e0 :: r, e.2 = f → e.1 ∉ numsFrom f 0 ws := fun e he ef z => by
    have := hlay e he
    unfold layB at this
    rw [ef, (nums_iff.mp z).2, decide_eq_true rfl] at this
    cases this
  have hps := pairs_ok (f := f) hl hp
  have hap := pairs_apart (f := f) hc
  have hnd := hn.sublist (pairs_fst (f := f) (es := e0 :: r))
  -- a free tie at the end
  obtain ⟨ms, hM, hms, hkeep⟩ : ∃ ms, Fo ts ms ∧ (∀ x, x ∈ ms ↔ x ∈ numsFrom f 0 ws ∨ ∃ e, (e0 :: r).getLast? = some e ∧ e.2 = f ∧ e.1 = x) ∧ ∀ p ∈ pairsF f (e0 :: r), p.1 ∉ ms ∧ jn ts ms (tk ts p.1).1 (tk ts p.1).2 ∧ ∀ x, OnR ts ms p.1 x ↔ OnR ts (numsFrom f 0 ws) p.1 x := by
    by_cases c : ∃ e, (e0 :: r).getLast? = some e ∧ e.2 = f
    · obtain ⟨e, he, ef⟩ := c
      have hem := List.mem_of_getLast? he
      have hj : ¬ jn ts (numsFrom f 0 ws) (tk ts e.1).1 (tk ts e.1).2 := fun z => by
        have := push_last hp he
        subst ef
        rw [(jn_join hl).mpr z] at this
        cases this
      have hM := hF.add (hout e hem ef) hj
      refine ⟨_, hM, fun x => ?_, fun p hpm => ?_⟩
      · rw [List.mem_append, List.mem_singleton]
        constructor
        · rintro (h | h)
          · exact .inl h
          · exact .inr ⟨e, he, ef, h.symm⟩
        · rintro (h | ⟨e', h1, _, h3⟩)
          · exact .inl h
          · rw [he] at h1
            cases h1
            exact .inr h3.symm
      · obtain ⟨p1, p2, p3⟩ := hps p hpm
        refine ⟨fun z => ?_, ring_stays hF hM p2 fun x hx => List.mem_append_left _ hx.1⟩
        rcases List.mem_append.mp z with z | z
        · exact hout (p.1, f) p1 rfl z
        · exact pairs_not_last hn hpm he (List.mem_singleton.mp z)
    · refine ⟨_, hF, fun x => ⟨.inl, fun h => h.elim id fun ⟨e, h1, h2, _⟩ => absurd ⟨e, h1, h2⟩ c⟩, fun p hpm => ?_⟩
      obtain ⟨p1, p2, p3⟩ := hps p hpm
      exact ⟨hout (p.1, f) p1 rfl, p2, fun _ => Iff.rfl⟩
  obtain ⟨ns, hN, hns⟩ := Fo.swaps (pairsF f (e0 :: r)).reverse hM (by rw [List.map_reverse]; exact (List.reverse_perm _).nodup_iff.mpr hnd) (fun p hpm => by
    have hpm := List.mem_reverse.mp hpm
    obtain ⟨a, b, c⟩ := hkeep p hpm
    exact ⟨a, b, (c _).mpr (hps p hpm).2.2⟩) (by
    rw [List.pairwise_reverse]
    exact hap.imp_of_mem fun {p q} hpm hqm hpq => fun z => hpq (((hkeep p hpm).2.2 _).mp z))
  refine hN.same (nums_nd _ _ _) fun x => ?_
  rw [hns x, hms x, List.map_reverse, List.map_reverse, List.mem_reverse, List.mem_reverse]
  have hgone : ∀ y, y ∈ (pairsF f (e0 :: r)).map Prod.snd → y ∈ numsFrom f 0 ws ∧ y ∈ (e0 :: r).map Prod.fst := fun y hy => by
    obtain ⟨p, hpm, rfl⟩ := List.mem_map.mp hy
    obtain ⟨q, hq, e⟩ := pairs_snd hpm
    exact ⟨(hps p hpm).2.2.1, List.mem_map.mpr ⟨q, List.mem_cons_of_mem _ hq, e⟩⟩
  constructor
  · intro h
    obtain ⟨x0, hx⟩ := nums_iff.mp h
    by_cases c : x ∈ (e0 :: r).map Prod.fst
    · obtain ⟨e, he, rfl⟩ := List.mem_map.mp c
      rw [pushL_in _ hn hb' he] at hx
      have ef : e.2 = f := V.int.inj (Option.some.inj hx)
      rcases pairs_has he ef with ⟨b, hbm⟩ | hla
      · exact .inr (List.mem_map.mpr ⟨_, hbm, rfl⟩)
      · exact .inl ⟨.inr ⟨e, hla, ef, rfl⟩, fun z => hout e he ef (hgone _ z).1⟩
    · rw [pushL_in.pushL_out _ c hb' x0] at hx
      exact .inl ⟨.inl (nums_iff.mpr ⟨x0, hx⟩), fun z => c (hgone _ z).2⟩
  · rintro (⟨h | ⟨e, h1, h2, rfl⟩, hx⟩ | h)
    · obtain ⟨x0, hw⟩ := nums_iff.mp h
      refine nums_iff.mpr ⟨x0, ?_⟩
      rw [pushL_in.pushL_out _ (fun z => ?_) hb' x0]
      · exact hw
      · obtain ⟨q, hq, rfl⟩ := List.mem_map.mp z
        rcases List.mem_cons.mp hq with rfl | hq
        · rw [h0] at hw
          cases hw
        · exact hx (pairs_gone hp q hq h)
    · have hem := List.mem_of_getLast? h1
      exact nums_iff.mpr ⟨(hb e hem).1, by rw [pushL_in _ hn hb' hem, h2]⟩
    · obtain ⟨p, hpm, rfl⟩ := List.mem_map.mp h
      have := (hps p hpm).1
      exact nums_iff.mpr ⟨(hb _ this).1, pushL_in _ hn hb' this⟩
end FF
namespace FF
open PySem PySem.Spec PyProof.Rows L2
variable [LT]
/-! ### what is reached and closed is full -/
theorem nub_one {ls : List Int} {g : Int → Int} (hne : ls ≠ []) (h : ∀ x ∈ ls, ∀ y ∈ ls, g x = g y) : (nub (ls.map g)).length = 1 := by
  cases ls with
  | nil => exact absurd rfl hne
  | cons x r =>
    have : (nub ((x :: r).map g)).length = [g x].length := nd_eq (nub_nd _) (by simp) fun k => by
      rw [mem_nub, List.mem_singleton]
      constructor
      · intro hk
        obtain ⟨y, hy, rfl⟩ := List.mem_map.mp hk
        exact h y hy x List.mem_cons_self
      · rintro rfl
        exact List.mem_map.mpr ⟨x, List.mem_cons_self, rfl⟩
    exact this
theorem tree_count {ts : List (Int × Int)} {ms : List Int} {ls : List Int} (h : Fo ts ms) (hin : ∀ m ∈ ms, (tk ts m).1 ∈ ls ∧ (tk ts m).2 ∈ ls) (hn : ls.Nodup) (hne : ls ≠ []) (hj : ∀ x ∈ ls, ∀ y ∈ ls, jn ts ms x y) : ms.length + 1 = ls.length := by
  have := lot_count (ls := ls) h.rl fun t ht => by
    obtain ⟨m, hm, rfl⟩ := List.mem_map.mp ht
    exact hin m hm
  rw [nub_one hne hj, List.map_id', nub_of_nd hn, pick_length] at this
  exact this
/-- ties that are reached: closed under pushes, and hanging together -/
structure Closed (ts : List (Int × Int)) (ws : List V) (k : Int) (R : List Int) : Prop where
  nd : R.Nodup
  rng : ∀ t ∈ R, 0 ≤ t ∧ t < (ts.length : Int)
  ring : ∀ t ∈ R, ∀ f, 0 ≤ f → f < k → ws[t.toNat]? ≠ some (.int f) → jn ts (numsFrom f 0 ws) (tk ts t).1 (tk ts t).2 ∧ ∀ x, OnR ts (numsFrom f 0 ws) t x → x ∈ R
  one : ∀ t ∈ R, ∀ s ∈ R, jn ts R (tk ts t).1 (tk ts s).1
/-- the ends of some ties -/
structure EndsOf (ts : List (Int × Int)) (R : List Int) (ls : List Int) : Prop where
  nd : ls.Nodup
  mem : ∀ x, x ∈ ls ↔ ∃ t ∈ R, x = (tk ts t).1 ∨ x = (tk ts t).2
theorem Closed.joins {ts : List (Int × Int)} {ws : List V} {k : Int} {R ls : List Int} (h : Closed ts ws k R) (hE : EndsOf ts R ls) {x y : Int} (hx : x ∈ ls) (hy : y ∈ ls) : jn ts R x y := by
  have go : ∀ z ∈ ls, ∃ t ∈ R, jn ts R z (tk ts t).1 := fun z hz => by
    obtain ⟨t, ht, e⟩ := (hE.mem z).mp hz
    refine ⟨t, ht, ?_⟩
    rcases e with rfl | rfl
    · rfl
    · exact (Leads.foldR (ts := ts) ht (.inl rfl)).symm
  obtain ⟨t, ht, e1⟩ := go x hx
  obtain ⟨s, hs, e2⟩ := go y hy
  exact e1.trans ((h.one t ht s hs).trans e2.symm)
/-- in each forest the reached ties are a tree on their ends -/
theorem Closed.tree {ts : List (Int × Int)} {ws : List V} {k : Int} {R ls : List Int} (hl : ws.length = ts.length) (h : Closed ts ws k R) (hE : EndsOf ts R ls) (hne : R ≠ []) (hf : ∀ f, ringlessF (fun x => x) (layerOf ts ws f) = true) {f : Int} (f0 : 0 ≤ f) (f1 : f < k) : inside ls (layerOf ts ws f) + 1 = ls.length := by
  have hF := (fo_nums hl).mpr (hf f)
  have hFo : Fo ts ((numsFrom f 0 ws).filter fun m => decide (m ∈ R)) := ⟨hF.nd.filter _, ringlessF_sub (List.filter_sublist.map _) hF.rl⟩
  have hlne : ls ≠ [] := by
    cases R with
    | nil => exact absurd rfl hne
    | cons t r => exact fun z => by have := (hE.mem (tk ts t).1).mpr ⟨t, List.mem_cons_self, .inl rfl⟩; rw [z] at this; cases this
  have hj : ∀ x ∈ ls, ∀ y ∈ ls, jn ts ((numsFrom f 0 ws).filter fun m => decide (m ∈ R)) x y := fun x hx y hy => by
    refine foldR_fine (g := foldR (fun x => x) (pick ts ((numsFrom f 0 ws).filter fun m => decide (m ∈ R)))) (L := pick ts R) (r := fun x => x) (fun a b e => by rw [show a = b from e]) (fun t ht => ?_) x y (h.joins hE hx hy)
    obtain ⟨m, hm, rfl⟩ := List.mem_map.mp ht
    by_cases c : ws[m.toNat]? = some (.int f)
    · have : m ∈ (numsFrom f 0 ws).filter fun m => decide (m ∈ R) := List.mem_filter.mpr ⟨nums_iff.mpr ⟨(h.rng m hm).1, c⟩, decide_eq_true hm⟩
      exact Leads.foldR (ts := ts) this (.inl rfl)
    · obtain ⟨j1, j2⟩ := h.ring m hm f f0 f1 c
      obtain ⟨ns, hR⟩ := ring_exists hF.nd j1
      have h1 := hR.mem_iff hF.rl hF.nd
      exact hR.way.joined fun x hx => List.mem_filter.mpr ⟨hR.mem x hx, decide_eq_true (j2 x ((h1 x).mp hx))⟩
  have h1 := tree_count hFo (fun m hm => by
    have := of_decide_eq_true (List.mem_filter.mp hm).2
    exact ⟨(hE.mem _).mpr ⟨m, this, .inl rfl⟩, (hE.mem _).mpr ⟨m, this, .inr rfl⟩⟩) hE.nd hlne hj
  have h2 := inside_forest (hf f) hE.nd hlne
  have h3 : ((numsFrom f 0 ws).filter fun m => decide (m ∈ R)).length ≤ inside ls (layerOf ts ws f) := by
    have e : layerOf ts ws f = pick ts (numsFrom f 0 ws) := (pick_nums f [] ts ws hl.symm).symm
    unfold inside
    rw [e]
    unfold pick
    rw [List.filter_map, List.length_map]
    refine (List.Sublist.length_le ?_)
    rw [show ((numsFrom f 0 ws).filter fun m => decide (m ∈ R)) = ((numsFrom f 0 ws).filter ((fun t => decide (t.1 ∈ ls) && decide (t.2 ∈ ls)) ∘ fun m => ts.getD m.toNat (0, 0))).filter fun m => decide (m ∈ R) from ?_]
    · exact List.filter_sublist
    · rw [List.filter_filter]
      apply List.filter_congr
      intro m _
      by_cases c : m ∈ R
      · rw [decide_eq_true c]
        show true = (true && (decide ((tk ts m).1 ∈ ls) && decide ((tk ts m).2 ∈ ls)))
        rw [decide_eq_true ((hE.mem _).mpr ⟨m, c, .inl rfl⟩), decide_eq_true ((hE.mem _).mpr ⟨m, c, .inr rfl⟩)]
        rfl
      · rw [decide_eq_false c]
        rfl
  omega
end FF
namespace FF
open PySem PySem.Spec PyProof.Rows L2
variable [LT]
theorem laid_inside (ls : List Int) : ∀ {ts : List (Int × Int)} {ws : List V}, inside ls (laidT ts ws) ≤ inside ls ts
  | [], ws => by
    unfold laidT
    rw [List.zip_nil_left]
    exact Nat.le_refl _
  | t :: ts, [] => by
    unfold laidT
    rw [List.zip_nil_right]
    exact Nat.zero_le _
  | t :: ts, x :: ws => by
    have ih := laid_inside ls (ts := ts) (ws := ws)
    rw [laidT_cons, inside_app, show t :: ts = [t] ++ ts from rfl, inside_app]
    split
    · have : inside ls [] = 0 := rfl
      omega
    · omega
theorem left_inside {ls : List Int} : ∀ {ts : List (Int × Int)} {ws : List V} {i : Nat} {t : Int × Int}, ts[i]? = some t → ws[i]? = some .non → t.1 ∈ ls → t.2 ∈ ls → inside ls (laidT ts ws) + 1 ≤ inside ls ts
  | u :: ts, x :: ws, 0, t, h1, h2, a, b => by
    cases h1
    cases h2
    rw [laidT_cons, if_pos rfl, List.nil_append, inside_cons, decide_eq_true a, decide_eq_true b]
    have := laid_inside ls (ts := ts) (ws := ws)
    show _ ≤ 1 + _
    omega
  | u :: ts, x :: ws, i + 1, t, h1, h2, a, b => by
    have ih := left_inside (ts := ts) (ws := ws) (i := i) h1 h2 a b
    rw [laidT_cons, inside_app, show u :: ts = [u] ++ ts from rfl, inside_app]
    split
    · have : inside ls [] = 0 := rfl
      omega
    · omega
  | [], _, _, _, h1, _, _, _ => by simp at h1
  | _ :: _, [], _, _, _, h2, _, _ => by simp at h2
/-- the ends of what is reached and closed are full -/
theorem Closed.full {ts : List (Int × Int)} {ws : List V} {k : Int} {R ls : List Int} (hL : LayK ts k ws) (hk : 0 ≤ k) (h : Closed ts ws k R) (hE : EndsOf ts R ls) {e : Int} (he : e ∈ R) (hn : ws[e.toNat]? = some .non) : (inside ls ts : Int) > k * ((ls.length : Int) - 1) := by
  have hne : R ≠ [] := fun z => by rw [z] at he; cases he
  have ht : (inside ls (laidT ts ws) : Int) = k * ((ls.length : Int) - 1) := by
    refine (tight_iff hL hk hE.nd ?_).mpr fun f f0 f1 => ?_
    · intro z
      have := (hE.mem (tk ts e).1).mpr ⟨e, he, .inl rfl⟩
      rw [z] at this
      cases this
    · have := h.tree hL.len hE hne hL.tree f0 f1
      omega
  have := left_inside (ls := ls) (getD_at (h.rng e he).1 (h.rng e he).2) hn ((hE.mem _).mpr ⟨e, he, .inl rfl⟩) ((hE.mem _).mpr ⟨e, he, .inr rfl⟩)
  omega
/-- a full lot lets no whole laying -/
theorem whole_inside {ts : List (Int × Int)} {ws : List V} (hl : ws.length = ts.length) (hw : ∀ x ∈ ws, x ≠ V.non) : laidT ts ws = ts := by
  induction ts generalizing ws with
  | nil =>
    unfold laidT
    rw [List.zip_nil_left]
    rfl
  | cons t ts ih =>
    cases ws with
    | nil => cases hl
    | cons x ws =>
      rw [laidT_cons, if_neg (hw x List.mem_cons_self), ih (Nat.succ.inj hl) fun y hy => hw y (List.mem_cons_of_mem _ hy)]
      rfl
theorem not_full {ts : List (Int × Int)} {k : Int} {ws : List V} (hL : LayK ts k ws) (hk : 0 ≤ k) (hw : ∀ x ∈ ws, x ≠ V.non) {ls : List Int} (hn : ls.Nodup) (hne : ls ≠ []) : (inside ls ts : Int) ≤ k * ((ls.length : Int) - 1) := by
  have e := inside_laid ls hL.len hL.each
  rw [whole_inside hL.len hw] at e
  rw [e]
  have hm := sum_most (s := (ls.length : Int) - 1) (g := fun f => (inside ls (layerOf ts ws f) : Int)) (l := upTo k) fun f _ => by
    have := inside_forest (hL.tree f) hn hne
    show (inside ls (layerOf ts ws f) : Int) ≤ _
    omega
  have hl : ((upTo k).length : Int) = k := by rw [upTo_length]; omega
  rw [hl] at hm
  exact hm.1
/-- a laying after a row of pushes without short cuts -/
theorem LayK.push {ts : List (Int × Int)} {k : Int} {ws : List V} {e0 : Int × Int} {r : List (Int × Int)} (hL : LayK ts k ws) (hn : ((e0 :: r).map Prod.fst).Nodup) (hb : ∀ e ∈ e0 :: r, (0 ≤ e.1 ∧ e.1 < (ts.length : Int)) ∧ 0 ≤ e.2 ∧ e.2 < k) (hlay : ∀ e ∈ e0 :: r, layB ws e = false) (hp : pushB ts ws (e0 :: r) = true) (h0 : ws[e0.1.toNat]? = some .non) (hc : NoCut ts ws (e0 :: r)) : LayK ts k (pushL ws (e0 :: r)) := by
  refine ⟨(pushL_length _ _).trans hL.len, ?_, row_lays hL.len hL.tree hn (fun e he => (hb e he).1) hlay hp h0 hc⟩
  have go : ∀ (es : List (Int × Int)) {ws : List V}, (∀ e ∈ es, 0 ≤ e.2 ∧ e.2 < k) → (∀ x ∈ ws, x = V.non ∨ ∃ f, x = V.int f ∧ 0 ≤ f ∧ f < k) → ∀ x ∈ pushL ws es, x = V.non ∨ ∃ f, x = V.int f ∧ 0 ≤ f ∧ f < k := fun es => by
    induction es with
    | nil => exact fun _ h => h
    | cons e es ih =>
      intro ws he h
      refine ih (ws := ws.set e.1.toNat (.int e.2)) (fun e' h' => he e' (List.mem_cons_of_mem _ h')) fun x hx => ?_
      rcases List.mem_or_eq_of_mem_set hx with hx | rfl
      · exact h x hx
      · exact .inr ⟨_, rfl, he e List.mem_cons_self⟩
  exact go _ (fun e he => (hb e he).2) hL.each
end FF
namespace FF
open PySem PySem.Spec PyProof.Rows L2
variable [LT]
/-! ### where no lot is full a whole laying is there -/
structure PRow (ts : List (Int × Int)) (ws : List V) (k : Int) (es : List (Int × Int)) : Prop where
  ne : es ≠ []
  bd : ∀ e ∈ es, (0 ≤ e.1 ∧ e.1 < (ts.length : Int)) ∧ 0 ≤ e.2 ∧ e.2 < k
  lay : ∀ e ∈ es, layB ws e = false
  push : pushB ts ws es = true
section
variable {ts : List (Int × Int)} {ws : List V} {k : Int}
theorem pushB_parts {e e' : Int × Int} {r : List (Int × Int)} : pushB ts ws (e :: e' :: r) = true ↔ joinB ts ws e = true ∧ OnRing ts ws e e'.1 ∧ pushB ts ws (e' :: r) = true := by
  show ((joinB ts ws e && @decide (OnRing ts ws e e'.1) (Classical.propDecidable _)) && pushB ts ws (e' :: r)) = true ↔ _
  rw [Bool.and_eq_true, Bool.and_eq_true, @decide_eq_true_eq _ (Classical.propDecidable _), and_assoc]
theorem PRow.tail {e e' : Int × Int} {r : List (Int × Int)} (h : PRow ts ws k (e :: e' :: r)) : PRow ts ws k (e' :: r) :=
  ⟨List.cons_ne_nil _ _, fun q hq => h.bd q (List.mem_cons_of_mem _ hq), fun q hq => h.lay q (List.mem_cons_of_mem _ hq), (pushB_parts.mp h.push).2.2⟩
theorem PRow.cons {e e' : Int × Int} {r : List (Int × Int)} (b : (0 ≤ e.1 ∧ e.1 < (ts.length : Int)) ∧ 0 ≤ e.2 ∧ e.2 < k) (l : layB ws e = false) (j : joinB ts ws e = true) (o : OnRing ts ws e e'.1) (h : PRow ts ws k (e' :: r)) : PRow ts ws k (e :: e' :: r) :=
  ⟨List.cons_ne_nil _ _, fun q hq => (List.mem_cons.mp hq).elim (fun z => z ▸ b) (h.bd q), fun q hq => (List.mem_cons.mp hq).elim (fun z => z ▸ l) (h.lay q), pushB_parts.mpr ⟨j, o, h.push⟩⟩
theorem PRow.drop : ∀ {es : List (Int × Int)} {l1 l2 : List (Int × Int)} {q : Int × Int}, PRow ts ws k es → es = l1 ++ q :: l2 → PRow ts ws k (q :: l2)
  | es, [], l2, q, h, e => by subst e; exact h
  | es, [d], l2, q, h, e => by subst e; exact PRow.tail h
  | es, d :: d' :: l1, l2, q, h, e => by subst e; exact PRow.drop (es := d' :: l1 ++ q :: l2) (PRow.tail h) rfl
/-- no row from its first tie is shorter -/
def Least (ts : List (Int × Int)) (ws : List V) (k : Int) : List (Int × Int) → Prop
  | [] => True
  | e :: r => ∀ e' r', PRow ts ws k (e' :: r') → e'.1 = e.1 → r.length ≤ r'.length
theorem Least.tail {e e' : Int × Int} {r : List (Int × Int)} (h : PRow ts ws k (e :: e' :: r)) (m : Least ts ws k (e :: e' :: r)) : Least ts ws k (e' :: r) := fun d r' hd ed => by
  have p := pushB_parts.mp h.push
  have := m e (d :: r') (PRow.cons (h.bd e List.mem_cons_self) (h.lay e List.mem_cons_self) p.1 (by rw [ed]; exact p.2.1) hd) rfl
  rw [List.length_cons, List.length_cons] at this
  omega
theorem Least.nocut : ∀ {es : List (Int × Int)}, PRow ts ws k es → Least ts ws k es → NoCut ts ws es ∧ (es.map Prod.fst).Nodup
  | [], h, _ => absurd rfl h.ne
  | [e], _, _ => ⟨⟨(fun _ z => nomatch z), trivial⟩, by simp⟩
  | e :: e' :: r, h, m => by
    obtain ⟨i1, i2⟩ := Least.nocut (PRow.tail h) (m.tail h)
    have p := pushB_parts.mp h.push
    refine ⟨⟨fun q hq z => ?_, i1⟩, ?_⟩
    · obtain ⟨l1, l2, el⟩ := List.append_of_mem (show q ∈ r from hq)
      have hd := PRow.drop (l1 := e :: e' :: l1) (l2 := l2) (q := q) h (by rw [el]; rfl)
      have := m e (q :: l2) (PRow.cons (h.bd e List.mem_cons_self) (h.lay e List.mem_cons_self) p.1 z hd) rfl
      rw [el, List.length_cons, List.length_append, List.length_cons] at this
      omega
    · show (e.1 :: (e' :: r).map Prod.fst).Nodup
      rw [List.nodup_cons]
      refine ⟨fun z => ?_, i2⟩
      obtain ⟨q, hq, eq⟩ := List.mem_map.mp z
      obtain ⟨l1, l2, el⟩ := List.append_of_mem hq
      have hd := PRow.drop (l1 := e :: l1) (l2 := l2) (q := q) h (by rw [el]; rfl)
      have := m q l2 hd eq
      rw [el, List.length_append, List.length_cons] at this
      omega
/-- what pushes come to from e -/
inductive Rch (ts : List (Int × Int)) (ws : List V) (k : Int) (e : Int) : Int → Prop where
  | base : Rch ts ws k e e
  | step {s t f : Int} (h : Rch ts ws k e s) (f0 : 0 ≤ f) (f1 : f < k) (hn : ws[s.toNat]? ≠ some (.int f)) (hj : jn ts (numsFrom f 0 ws) (tk ts s).1 (tk ts s).2) (ho : OnR ts (numsFrom f 0 ws) s t) : Rch ts ws k e t
theorem Rch.rng {e t : Int} (hl : ws.length = ts.length) (h : Rch ts ws k e t) (he : 0 ≤ e ∧ e < (ts.length : Int)) : 0 ≤ t ∧ t < (ts.length : Int) := by
  induction h with
  | base => exact he
  | step _ _ _ _ _ ho _ =>
    obtain ⟨h0, h1⟩ := nums_iff.mp ho.1
    have := (List.getElem?_eq_some_iff.mp h1).1
    exact ⟨h0, by omega⟩
theorem layB_ne {s f : Int} (h : ws[s.toNat]? ≠ some (.int f)) : layB ws (s, f) = false := decide_eq_false h
theorem Rch.back {e t : Int} (hl : ws.length = ts.length) (h : Rch ts ws k e t) (he : 0 ≤ e ∧ e < (ts.length : Int)) : (∃ d r, PRow ts ws k (d :: r) ∧ d.1 = t) → ∃ d r, PRow ts ws k (d :: r) ∧ d.1 = e := by
  induction h with
  | base => exact id
  | @step s t f hs f0 f1 hn hj ho ih =>
    rintro ⟨d, r, hp, rfl⟩
    exact ih ⟨(s, f), d :: r, PRow.cons ⟨hs.rng hl he, f0, f1⟩ (layB_ne hn) ((jn_join (e := (s, f)) hl).mpr hj) ho hp, rfl⟩
end
end FF
namespace FF
open PySem PySem.Spec PyProof.Rows L2
variable [LT]
/-! ### all ways to lay -/
end FF
namespace FF
open PySem PySem.Spec PyProof.Rows L2
variable [LT]
/-! ### things as entries and rows -/
end FF
namespace FF
open PySem PySem.Spec PyProof.Rows L2
variable [LT]
/-! ### levels, and all pushers with their rings -/
open Classical in
noncomputable def lowB (ts : List (Int × Int)) (ws : List V) (e : Int × Int) (m : Int) (ls : List Int) : Bool := if joinB ts ws e = true then decide (∀ x, OnRing ts ws e x → hat ls x ≤ hat ls e.1 + 1) else decide (hat ls e.1 ≥ m - 1)
/-- what is pushed out of forest f is low enough -/
def LowF (ts : List (Int × Int)) (ws : List V) (tie : Nat) (m : Int) (ls : List Int) (f : Int) : Prop := ∀ i : Nat, i < ts.length → (i = tie ∨ ws[i]? ≠ some .non) → ws[i]? ≠ some (.int f) → lowB ts ws ((i : Int), f) m ls = true
def LevP (ts : List (Int × Int)) (k : Int) (ws : List V) (tie : Nat) (m : Int) (ls : List Int) : Prop := hat ls (tie : Int) = 0 ∧ ∀ f, 0 ≤ f → f < k → LowF ts ws tie m ls f
end FF
namespace FF
open PySem PySem.Spec PyProof.Rows L2
variable [LT]
/-! ### slices of tuples that are known to the object -/
section
variable {X : Cx} {K : PySem.W.Frag}
end
/-! ### layers of ways: how many earlier ties go the same way -/
end FF
namespace FF
open PySem PySem.Spec PyProof.Rows L2
variable [LT]
/-! ### each piece of a layer of ways has no more ties than points -/
end FF
namespace FF
open PySem PySem.Spec PyProof.Rows L2
variable [LT]
/-! ### {e for x in xs for y in ys}: a set of ints of two walks, no test -/
section
open PySem.Spec
abbrev two (elt t0 i0 t1 i1 : Expr) (scope : Scope) (pos : Pos) : Expr := .SetComp elt [⟨t0, i0, [], 0⟩, ⟨t1, i1, [], 0⟩] scope pos
end
section
open PySem.Spec
variable {prog : Program} {w : World} {A : Around} {R : Result → Shared → Prop} {s : Shared}
end
section
variable {X : Cx}
end
end FF
namespace FF
open PySem PySem.Spec PyProof.Rows L2
variable [LT]
/-! ### rows as the program and the laws tell of them -/
end FF
namespace FF
open PySem PySem.Spec PyProof.Rows L2
variable [LT]
/-! ### the search for a free tie: who pushes whom, and how far each is -/
section
variable {ts : List (Int × Int)} {ws : List V} {k : Int}
/-- levels tell how short a row may be -/
theorem LevP.least {tie : Nat} {m : Int} {ls : List Int} (hw : ws.length = ts.length) (h : LevP ts k ws tie m ls) : ∀ {es : List (Int × Int)} {e : Int × Int} {r : List (Int × Int)}, es = e :: r → PRow ts ws k es → (e.1 = tie ∨ ws[e.1.toNat]? ≠ some .non) → m ≤ es.length + hat ls e.1
  | [], _, _, h0, _, _ => nomatch h0
  | [e], _, _, h0, hp, hx => by
    cases h0
    obtain ⟨⟨a0, a1⟩, f0, f1⟩ := hp.bd e (List.mem_singleton.mpr rfl)
    have hj : joinB ts ws e = false := by
      have := hp.push
      show joinB ts ws e = false
      have this : (!joinB ts ws e) = true := this
      cases z : joinB ts ws e with
      | false => rfl
      | true => rw [z] at this; cases this
    obtain ⟨i, hi⟩ : ∃ i : Nat, e.1 = i := ⟨e.1.toNat, by omega⟩
    have hl := h.2 e.2 f0 f1 i (by omega) (hx.imp (fun z => by omega) fun z => by rw [hi, Int.toNat_natCast] at z; exact z) (fun z => by
      have := hp.lay e (List.mem_singleton.mpr rfl)
      unfold layB at this
      rw [hi, Int.toNat_natCast, decide_eq_true z] at this
      cases this)
    rw [show (((i : Nat) : Int), e.2) = e by rw [← hi]] at hl
    unfold lowB at hl
    rw [if_neg (by rw [hj]; decide)] at hl
    have := of_decide_eq_true hl
    show m ≤ 1 + hat ls e.1
    omega
  | e :: e' :: r, _, _, h0, hp, hx => by
    cases h0
    obtain ⟨⟨a0, a1⟩, f0, f1⟩ := hp.bd e List.mem_cons_self
    obtain ⟨hj, ho, _⟩ := pushB_parts.mp hp.push
    obtain ⟨i, hi⟩ : ∃ i : Nat, e.1 = i := ⟨e.1.toNat, by omega⟩
    have hl := h.2 e.2 f0 f1 i (by omega) (hx.imp (fun z => by omega) fun z => by rw [hi, Int.toNat_natCast] at z; exact z) (fun z => by
      have := hp.lay e List.mem_cons_self
      unfold layB at this
      rw [hi, Int.toNat_natCast, decide_eq_true z] at this
      cases this)
    rw [show (((i : Nat) : Int), e.2) = e by rw [← hi]] at hl
    unfold lowB at hl
    rw [if_pos hj] at hl
    have h1 := (@of_decide_eq_true _ (Classical.propDecidable _) hl) e'.1 ho
    have h2 := LevP.least hw h rfl hp.tail (.inr fun z => by
      have := (nums_iff.mp ho.1).2
      rw [this] at z
      cases z)
    rw [List.length_cons] at h2 ⊢
    have : ((r.length + 1 + 1 : Nat) : Int) = ((r.length + 1 : Nat) : Int) + 1 := by omega
    show m ≤ (((e' :: r).length + 1 : Nat) : Int) + hat ls e.1
    rw [List.length_cons]
    omega
theorem LevP.Least {tie : Nat} {ls : List Int} (hw : ws.length = ts.length) {e : Int × Int} {r : List (Int × Int)} (h : LevP ts k ws tie ((e :: r).length : Int) ls) (he : e.1 = tie) : FF.Least ts ws k (e :: r) := fun e' r' hp he' => by
  have := LevP.least hw h (es := e' :: r') rfl hp (.inl (he'.trans he))
  rw [he'.trans he, h.1, List.length_cons, List.length_cons] at this
  omega
/-- what pushes come to, closed -/
theorem closed_keys {e : Int} {R : List Int} (hL : LayK ts k ws) (he : 0 ≤ e ∧ e < (ts.length : Int)) (hnd : R.Nodup) (mem : ∀ t, t ∈ R ↔ Rch ts ws k e t) (ring : ∀ t, Rch ts ws k e t → ∀ f, 0 ≤ f → f < k → ws[t.toNat]? ≠ some (.int f) → jn ts (numsFrom f 0 ws) (tk ts t).1 (tk ts t).2 ∧ ∀ x, OnR ts (numsFrom f 0 ws) t x → Rch ts ws k e x) : Closed ts ws k R := by
  have hl := hL.len
  refine ⟨hnd, fun t ht => ((mem t).mp ht).rng hl he, fun t ht f f0 f1 hn => ?_, fun t ht s hs => ?_⟩
  · obtain ⟨a, b⟩ := ring t ((mem t).mp ht) f f0 f1 hn
    exact ⟨a, fun x hx => (mem x).mpr (b x hx)⟩
  · have go : ∀ t, Rch ts ws k e t → jn ts R (tk ts t).1 (tk ts e).1 := fun t ht => by
      induction ht with
      | base => rfl
      | @step s t f hs f0 f1 hn hj ho ih =>
        obtain ⟨_, hring⟩ := ring s hs f f0 f1 hn
        have hF := (fo_nums hl).mpr (hL.tree f)
        obtain ⟨ns, hRg⟩ := ring_exists hF.nd hj
        have h1 := hRg.mem_iff hF.rl hF.nd
        have hsub : ∀ x ∈ ns, x ∈ R := fun x hx => (mem x).mpr (hring x ((h1 x).mp hx))
        obtain ⟨l1, l2, u, v, el, w1, w2, w3⟩ := hRg.way.cut ((h1 t).mpr ho)
        have e1 : jn ts R (tk ts s).1 u := w1.joined fun x hx => hsub x (by rw [el]; exact List.mem_append_left _ hx)
        have htR : t ∈ R := (mem t).mpr (.step hs f0 f1 hn hj ho)
        have e2 : jn ts R (tk ts t).1 (tk ts t).2 := Leads.foldR (ts := ts) htR (.inl rfl)
        have e3 : jn ts R (tk ts t).1 u := by
          rcases w2 with w2 | w2
          · have : (tk ts t) = (u, v) := w2
            rw [this]
          · have : (tk ts t) = (v, u) := w2
            rw [this] at e2 ⊢
            exact e2
        exact e3.trans (e1.symm.trans ih)
    exact (go t ((mem t).mp ht)).trans (go s ((mem s).mp hs)).symm
/-- keys with who pushes them, in the order of coming; lv: how far they are; the first a of them looked through -/
structure Bfs (ts : List (Int × Int)) (ws : List V) (k : Int) (tie : Nat) (fl : List (Int × Option (Int × Int))) (lv : Nat → Nat) (a : Nat) : Prop where
  head : fl[0]? = some ((tie : Int), none)
  nd : (fl.map Prod.fst).Nodup
  rng : ∀ x ∈ fl.map Prod.fst, 0 ≤ x ∧ x < (ts.length : Int)
  par : ∀ (i : Nat) x s f, fl[i]? = some (x, some (s, f)) → ∃ j, j < i ∧ (∃ o, fl[j]? = some (s, o)) ∧ lv i = lv j + 1 ∧ (0 ≤ f ∧ f < k) ∧ ws[s.toNat]? ≠ some (.int f) ∧ joinB ts ws (s, f) = true ∧ OnRing ts ws (s, f) x
  root : ∀ (i : Nat) x, fl[i]? = some (x, none) → i = 0
  lv0 : lv 0 = 0
  mono : ∀ i j, i ≤ j → j < fl.length → lv i ≤ lv j
  near : ∀ i, i < fl.length → a < fl.length → lv i ≤ lv a + 1
  done : ∀ j, j < a → ∀ s o, fl[j]? = some (s, o) → ∀ f, 0 ≤ f → f < k → ws[s.toNat]? ≠ some (.int f) → joinB ts ws (s, f) = true ∧ ∀ x, OnRing ts ws (s, f) x → ∃ i o', fl[i]? = some (x, o') ∧ lv i ≤ lv j + 1
variable {tie : Nat} {fl : List (Int × Option (Int × Int))} {lv : Nat → Nat} {a : Nat}
theorem Bfs.start (ht : tie < ts.length) : Bfs ts ws k tie [((tie : Int), none)] (fun _ => 0) 0 :=
  ⟨rfl, by simp, fun x hx => by rw [List.mem_singleton.mp hx]; omega, fun i x s f h => by
    cases i with
    | zero => cases h
    | succ i => simp at h, fun i x h => by
    cases i with
    | zero => rfl
    | succ i => simp at h, rfl, fun _ _ _ _ => Nat.le_refl _, fun _ _ _ => Nat.zero_le _, fun j hj => by omega⟩
theorem Bfs.add (h : Bfs ts ws k tie fl lv a) (hw : ws.length = ts.length) {s x f : Int} {o : Option (Int × Int)} (ha : fl[a]? = some (s, o)) (hx : x ∉ fl.map Prod.fst) (f0 : 0 ≤ f) (f1 : f < k) (hn : ws[s.toNat]? ≠ some (.int f)) (hj : joinB ts ws (s, f) = true) (ho : OnRing ts ws (s, f) x) : Bfs ts ws k tie (fl ++ [(x, some (s, f))]) (fun i => if i = fl.length then lv a + 1 else lv i) a := by
  have al : a < fl.length := (List.getElem?_eq_some_iff.mp ha).1
  have old : ∀ {i : Nat} {p}, fl[i]? = some p → (fl ++ [(x, some (s, f))])[i]? = some p ∧ i ≠ fl.length := fun {i p} e => by
    have := (List.getElem?_eq_some_iff.mp e).1
    exact ⟨by rw [List.getElem?_append_left this]; exact e, by omega⟩
  have cases_ : ∀ {i : Nat} {p}, (fl ++ [(x, some (s, f))])[i]? = some p → fl[i]? = some p ∨ (i = fl.length ∧ p = (x, some (s, f))) := fun {i p} e => by
    by_cases c : i < fl.length
    · rw [List.getElem?_append_left c] at e
      exact .inl e
    · have := (List.getElem?_eq_some_iff.mp e).1
      rw [List.length_append] at this
      have ei : i = fl.length := by
        have : i < fl.length + 1 := this
        omega
      rw [ei, List.getElem?_append_right (Nat.le_refl _), Nat.sub_self] at e
      exact .inr ⟨ei, (Option.some.inj e).symm⟩
  refine ⟨(old h.head).1, ?_, fun y hy => ?_, fun i y s' f' e => ?_, fun i y e => ?_, ?_, fun i j hij hj' => ?_, fun i hi _ => ?_, fun j hj' s' o' e f' g0 g1 hn' => ?_⟩
  · rw [List.map_append, List.nodup_append]
    exact ⟨h.nd, by simp, fun y hy z hz => by
      have e9 : z = x := List.mem_singleton.mp hz
      rw [e9]
      exact fun q => hx (by rw [← q]; exact hy)⟩
  · rw [List.map_append] at hy
    rcases List.mem_append.mp hy with hy | hy
    · exact h.rng y hy
    · have e9 : y = x := List.mem_singleton.mp hy
      rw [e9]
      have := nums_iff.mp ho.1
      refine ⟨this.1, ?_⟩
      have := (List.getElem?_eq_some_iff.mp this.2).1
      omega
  · rcases cases_ e with e | ⟨ei, e2⟩
    · obtain ⟨j, hj1, ⟨o', e'⟩, hl, r⟩ := h.par i y s' f' e
      refine ⟨j, hj1, ⟨o', (old e').1⟩, ?_, r⟩
      rw [if_neg (old e).2, if_neg (old e').2]
      exact hl
    · cases e2
      rw [ei]
      refine ⟨a, al, ⟨o, (old ha).1⟩, ?_, ⟨f0, f1⟩, hn, hj, ho⟩
      rw [if_pos rfl, if_neg (by omega)]
  · rcases cases_ e with e | ⟨_, e2⟩
    · exact h.root i y e
    · cases e2
  · show (if 0 = fl.length then _ else _) = 0
    rw [if_neg (by omega)]
    exact h.lv0
  · rw [List.length_append] at hj'
    have hj' : j < fl.length + 1 := hj'
    show (if i = fl.length then _ else _) ≤ (if j = fl.length then _ else _)
    by_cases c2 : j = fl.length
    · rw [if_pos c2]
      by_cases c1 : i = fl.length
      · rw [if_pos c1]
        exact Nat.le_refl _
      · rw [if_neg c1]
        exact h.near i (by omega) al
    · rw [if_neg c2, if_neg (by omega)]
      exact h.mono i j hij (by omega)
  · rw [List.length_append] at hi
    have hi : i < fl.length + 1 := hi
    show (if i = fl.length then _ else _) ≤ (if a = fl.length then _ else _) + 1
    rw [if_neg (show ¬ a = fl.length by omega)]
    by_cases c1 : i = fl.length
    · rw [if_pos c1]
      exact Nat.le_refl _
    · rw [if_neg c1]
      exact h.near i (by omega) al
  · rcases cases_ e with e | ⟨rfl, e⟩
    · obtain ⟨b1, b2⟩ := h.done j hj' s' o' e f' g0 g1 hn'
      refine ⟨b1, fun y hy => ?_⟩
      obtain ⟨i, o'', e', hl⟩ := b2 y hy
      refine ⟨i, o'', (old e').1, ?_⟩
      rw [if_neg (old e').2, if_neg (old e).2]
      exact hl
    · omega
theorem Bfs.next (h : Bfs ts ws k tie fl lv a) {s : Int} {o : Option (Int × Int)} (ha : fl[a]? = some (s, o)) (hd : ∀ f, 0 ≤ f → f < k → ws[s.toNat]? ≠ some (.int f) → joinB ts ws (s, f) = true ∧ ∀ x, OnRing ts ws (s, f) x → x ∈ fl.map Prod.fst) : Bfs ts ws k tie fl lv (a + 1) := by
  have al : a < fl.length := (List.getElem?_eq_some_iff.mp ha).1
  refine ⟨h.head, h.nd, h.rng, h.par, h.root, h.lv0, h.mono, fun i hi ha' => ?_, fun j hj s' o' e f f0 f1 hn => ?_⟩
  · have h1 := h.near i hi al
    have h2 := h.mono a (a + 1) (by omega) ha'
    omega
  · by_cases c : j < a
    · exact h.done j c s' o' e f f0 f1 hn
    · have ej : j = a := by omega
      subst ej
      rw [ha] at e
      cases e
      obtain ⟨b1, b2⟩ := hd f f0 f1 hn
      refine ⟨b1, fun x hx => ?_⟩
      obtain ⟨p, hp, rfl⟩ := List.mem_map.mp (b2 x hx)
      obtain ⟨i, hi⟩ := List.getElem?_of_mem hp
      exact ⟨i, p.2, hi, h.near i (List.getElem?_eq_some_iff.mp hi).1 al⟩
/-- one push more ahead of a row -/
theorem Bfs.step (h : Bfs ts ws k tie fl lv a) {i : Nat} {x s f g : Int} {r : List (Int × Int)} (e : fl[i]? = some (x, some (s, f))) (hp : PRow ts ws k ((x, g) :: r)) : PRow ts ws k ((s, f) :: (x, g) :: r) ∧ ∃ j o, j < i ∧ fl[j]? = some (s, o) ∧ lv i = lv j + 1 := by
  obtain ⟨j, hj, ⟨o', e'⟩, hlv, hf, hn, hjn, ho⟩ := h.par i x s f e
  exact ⟨hp.cons ⟨h.rng s (List.mem_map.mpr ⟨_, List.mem_of_getElem? e', rfl⟩), hf⟩ (layB_ne hn) hjn ho, j, o', hj, e', hlv⟩
theorem Bfs.key (h : Bfs ts ws k tie fl lv a) {i : Nat} {p : Int × Option (Int × Int)} (e : fl[i]? = some p) : p.1 ∈ fl.map Prod.fst := List.mem_map.mpr ⟨p, List.mem_of_getElem? e, rfl⟩
theorem Bfs.one (h : Bfs ts ws k tie fl lv a) {i j : Nat} {x : Int} {o o' : Option (Int × Int)} (e : fl[i]? = some (x, o)) (e' : fl[j]? = some (x, o')) : i = j := by
  have hi : (fl.map Prod.fst)[i]? = some x := by rw [List.getElem?_map, e]; rfl
  have hj : (fl.map Prod.fst)[j]? = some x := by rw [List.getElem?_map, e']; rfl
  obtain ⟨li, ei⟩ := List.getElem?_eq_some_iff.mp hi
  obtain ⟨lj, ej⟩ := List.getElem?_eq_some_iff.mp hj
  exact (List.getElem_inj h.nd).mp (ei.trans ej.symm)
theorem Bfs.levels (h : Bfs ts ws k tie fl lv a) (al : a < fl.length) {ls : List Int} (h1 : ∀ i x o, fl[i]? = some (x, o) → hat ls x = lv i) (h2 : ∀ x, 0 ≤ x → x < (ts.length : Int) → x ∉ fl.map Prod.fst → hat ls x = (lv a : Int) + 1) (hw : ws.length = ts.length) : LevP ts k ws tie ((lv a : Int) + 1) ls := by
  refine ⟨(h1 0 _ _ h.head).trans (by rw [h.lv0]; rfl), fun f f0 f1 s hs hp hn => ?_⟩
  have top : ∀ x, 0 ≤ x → x < (ts.length : Int) → hat ls x ≤ (lv a : Int) + 1 := fun x x0 x1 => by
    by_cases c : x ∈ fl.map Prod.fst
    · obtain ⟨p, hp, rfl⟩ := List.mem_map.mp c
      obtain ⟨i, hi⟩ := List.getElem?_of_mem hp
      rw [h1 i p.1 p.2 hi]
      have := h.near i (List.getElem?_eq_some_iff.mp hi).1 al
      omega
    · rw [h2 x x0 x1 c]
      exact Int.le_refl _
  have ringr : ∀ x, OnRing ts ws ((s : Int), f) x → 0 ≤ x ∧ x < (ts.length : Int) := fun x hx => by
    obtain ⟨x0, hx'⟩ := nums_iff.mp hx.1
    have := (List.getElem?_eq_some_iff.mp hx').1
    exact ⟨x0, by omega⟩
  unfold lowB
  by_cases cj : joinB ts ws ((s : Int), f) = true
  · rw [if_pos cj]
    refine @decide_eq_true _ (Classical.propDecidable _) fun x hx => ?_
    obtain ⟨x0, x1⟩ := ringr x hx
    have ht := top x x0 x1
    by_cases c : (s : Int) ∈ fl.map Prod.fst
    · obtain ⟨p, hp', ep⟩ := List.mem_map.mp c
      obtain ⟨j, hj⟩ := List.getElem?_of_mem hp'
      have ej := h1 j p.1 p.2 hj
      rw [ep] at ej
      show hat ls x ≤ hat ls (s : Int) + 1
      by_cases cja : j < a
      · obtain ⟨_, b2⟩ := h.done j cja p.1 p.2 hj f f0 f1 (by rw [ep, Int.toNat_natCast]; exact hn)
        rw [ep] at b2
        obtain ⟨i, o', hi, hl⟩ := b2 x hx
        rw [h1 i x o' hi, ej]
        omega
      · have := h.mono a j (by omega) (List.getElem?_eq_some_iff.mp hj).1
        omega
    · have := h2 (s : Int) (by omega) (by omega) c
      show hat ls x ≤ hat ls (s : Int) + 1
      omega
  · have cj : joinB ts ws ((s : Int), f) = false := by simpa using cj
    rw [if_neg (by rw [cj]; decide)]
    refine decide_eq_true ?_
    show hat ls (s : Int) ≥ (lv a : Int) + 1 - 1
    by_cases c : (s : Int) ∈ fl.map Prod.fst
    · obtain ⟨p, hp', ep⟩ := List.mem_map.mp c
      obtain ⟨j, hj⟩ := List.getElem?_of_mem hp'
      have ej := h1 j p.1 p.2 hj
      rw [ep] at ej
      by_cases cja : j < a
      · obtain ⟨b1, _⟩ := h.done j cja p.1 p.2 hj f f0 f1 (by rw [ep, Int.toNat_natCast]; exact hn)
        rw [ep, cj] at b1
        cases b1
      · have := h.mono a j (by omega) (List.getElem?_eq_some_iff.mp hj).1
        omega
    · have := h2 (s : Int) (by omega) (by omega) c
      omega
theorem Bfs.rch (h : Bfs ts ws k tie fl lv a) (hw : ws.length = ts.length) : ∀ (n i : Nat), i ≤ n → ∀ x o, fl[i]? = some (x, o) → Rch ts ws k (tie : Int) x
  | n, i, _, x, none, e => by
    have ei := h.root i x e
    subst ei
    rw [h.head] at e
    cases e
    exact .base
  | 0, i, hi, x, some (s, f), e => by
    obtain ⟨j, hj, _⟩ := h.par i x s f e
    omega
  | n + 1, i, hi, x, some (s, f), e => by
    obtain ⟨j, hj, ⟨o', e'⟩, _, ⟨f0, f1⟩, hn, hjn, ho⟩ := h.par i x s f e
    exact .step (h.rch hw n j (by omega) s o' e') f0 f1 hn ((jn_join (e := (s, f)) hw).mp hjn) ho
theorem Bfs.mem_rch (h : Bfs ts ws k tie fl lv a) (ha : fl.length ≤ a) (hw : ws.length = ts.length) : ∀ t, t ∈ fl.map Prod.fst ↔ Rch ts ws k (tie : Int) t := fun t => by
  constructor
  · intro z
    obtain ⟨p, hp, rfl⟩ := List.mem_map.mp z
    obtain ⟨i, hi⟩ := List.getElem?_of_mem hp
    exact h.rch hw i i (Nat.le_refl _) p.1 p.2 hi
  · intro z
    induction z with
    | base => exact h.key h.head
    | @step s t f hs f0 f1 hn hj ho ih =>
      obtain ⟨p, hp, rfl⟩ := List.mem_map.mp ih
      obtain ⟨j, hj'⟩ := List.getElem?_of_mem hp
      have jl := (List.getElem?_eq_some_iff.mp hj').1
      obtain ⟨_, b2⟩ := h.done j (by omega) p.1 p.2 hj' f f0 f1 hn
      obtain ⟨i, o', hi, _⟩ := b2 t ho
      exact h.key hi
theorem Bfs.closed (h : Bfs ts ws k tie fl lv a) (ha : fl.length ≤ a) (hL : LayK ts k ws) (ht : tie < ts.length) : Closed ts ws k (fl.map Prod.fst) := by
  have hw := hL.len
  have mem := h.mem_rch ha hw
  refine closed_keys hL ⟨by omega, by omega⟩ h.nd mem fun t ht' f f0 f1 hn => ?_
  obtain ⟨p, hp, rfl⟩ := List.mem_map.mp ((mem t).mpr ht')
  obtain ⟨j, hj'⟩ := List.getElem?_of_mem hp
  have jl := (List.getElem?_eq_some_iff.mp hj').1
  obtain ⟨b1, b2⟩ := h.done j (by omega) p.1 p.2 hj' f f0 f1 hn
  refine ⟨(jn_join (e := (p.1, f)) hw).mp b1, fun x hx => ?_⟩
  obtain ⟨i, o', hi, _⟩ := b2 x hx
  exact h.rch hw i i (Nat.le_refl _) x o' hi
/-- a row as long as the levels tell lays the tie -/
theorem PRow.lays {ls : List Int} {e : Int × Int} {r : List (Int × Int)} (hL : LayK ts k ws) (hp : PRow ts ws k (e :: r)) (he : e.1 = tie) (hl : LevP ts k ws tie ((e :: r).length : Int) ls) (h0 : ws[tie]? = some .non) : LayK ts k (pushL ws (e :: r)) ∧ ((e :: r).map Prod.fst).Nodup := by
  obtain ⟨hc, nd⟩ := Least.nocut hp (hl.Least hL.len he)
  refine ⟨hL.push nd hp.bd hp.lay hp.push (by rw [he, Int.toNat_natCast]; exact h0) hc, nd⟩
end
/-- from what is closed no row comes -/
theorem Closed.no_row {ts : List (Int × Int)} {ws : List V} {k : Int} {R : List Int} (h : Closed ts ws k R) (hw : ws.length = ts.length) : ∀ {es : List (Int × Int)} {e : Int × Int} {r : List (Int × Int)}, es = e :: r → PRow ts ws k es → e.1 ∈ R → False
  | [], _, _, h0, _, _ => nomatch h0
  | [e], _, _, h0, hp, hR => by
    cases h0
    obtain ⟨_, f0, f1⟩ := hp.bd e (List.mem_singleton.mpr rfl)
    have hl := hp.lay e (List.mem_singleton.mpr rfl)
    obtain ⟨hj, _⟩ := h.ring e.1 hR e.2 f0 f1 (of_decide_eq_false hl)
    have := push_last hp.push (e := e) rfl
    rw [(jn_join hw).mpr hj] at this
    cases this
  | e :: e' :: r, _, _, h0, hp, hR => by
    cases h0
    obtain ⟨_, f0, f1⟩ := hp.bd e List.mem_cons_self
    have hl := hp.lay e List.mem_cons_self
    obtain ⟨_, hr⟩ := h.ring e.1 hR e.2 f0 f1 (of_decide_eq_false hl)
    exact h.no_row hw rfl hp.tail (hr e'.1 (pushB_parts.mp hp.push).2.1)
section
variable {ts : List (Int × Int)} {ws : List V} {k : Int} {tie : Nat} {H H' : Hp} {fl : List (Int × Addr)} {bf : List (Int × Option (Int × Int))} {lv : Nat → Nat} {a : Nat}
end
end FF
namespace FF
open PySem PySem.Spec PyProof.Rows L2
variable [LT]
/-! ### dicts from ints to any values -/
theorem Ties.reverse {H : Hp} {rs : List V} {ts : List (Int × Int)} (h : Ties H rs ts) : Ties H rs.reverse ts.reverse := by
  unfold Ties at h
  induction h with
  | nil => exact .nil
  | cons a _ ih =>
    rw [List.reverse_cons, List.reverse_cons]
    exact Ties.append ih (.cons a .nil)
end FF
namespace FF
open PySem PySem.Spec PyProof.Rows L2
variable [LT]
/-! ### the heap while a free tie is sought -/
section
variable {H : Hp} {n : Int} {ts : List (Int × Int)} {ws : List V} {k : Int} {tie : Nat} {d nb hg wt : Addr} {bl : List (Int × Addr)} {G G' : Hp} {pl pl' : List (Int × V)} {fl fl' : List (Int × Option (Int × Int))} {lv lv' : Nat → Nat} {a a' : Nat} {gl gl' : List (Int × Addr)}
end
end FF
namespace FF
open PySem PySem.Spec PyProof.Rows L2
variable [LT]
/-! ### l.count(k) of ints and Nones -/
end FF
namespace FF
open PySem PySem.Spec PyProof.Rows L2
variable [LT]
/-! ### a ring in a forest is one sequence -/
theorem Way.split {ts : List (Int × Int)} : ∀ {p : List Int} {x z m : Int} {q : List Int}, Way ts x (p ++ m :: q) z → ∃ u v, Way ts x p u ∧ Leads ts m u v ∧ Way ts v q z
  | [], x, z, m, q, h => by
    obtain ⟨y, h1, h2⟩ := Way.inv h
    exact ⟨x, y, .nil x, h1, h2⟩
  | c :: p, x, z, m, q, h => by
    obtain ⟨y, h1, h2⟩ := Way.inv (show Way ts x (c :: (p ++ m :: q)) z from h)
    obtain ⟨u, v, a, b, d⟩ := Way.split h2
    exact ⟨u, v, .cons h1 a, b, d⟩
/-- m comes from a without m' -/
def Ere (ts : List (Int × Int)) (ms : List Int) (a m m' : Int) : Prop := foldR (fun x => x) (pick ts (but m' ms)) a = foldR (fun x => x) (pick ts (but m' ms)) (ts.getD m.toNat (0, 0)).1
theorem leads_end {ts : List (Int × Int)} {m u v : Int} (h : Leads ts m u v) : (ts.getD m.toNat (0, 0)).1 = u ∨ (ts.getD m.toNat (0, 0)).1 = v := by
  rcases h with h | h
  · exact .inl (by rw [h])
  · exact .inr (by rw [h])
section
variable {ts : List (Int × Int)} {ms : List Int} {a b : Int} {l : List Int}
theorem IsRing.ere (h : IsRing ts ms a b l) {p q : List Int} {m m' : Int} (e : l = p ++ m :: q) (hm : m' ∈ q) : Ere ts ms a m m' := by
  have hnd := h.nd
  subst e
  obtain ⟨u, v, w1, w2, _⟩ := Way.split h.way
  rw [List.nodup_append] at hnd
  obtain ⟨n1, n2, n3⟩ := hnd
  have n4 := (List.nodup_cons.mp n2).1
  have inb : ∀ x ∈ p, x ∈ but m' ms := fun x hx => mem_but.mpr ⟨h.mem x (List.mem_append_left _ hx), n3 x hx m' (List.mem_cons_of_mem _ hm)⟩
  have mb : m ∈ but m' ms := mem_but.mpr ⟨h.mem m (List.mem_append_right _ List.mem_cons_self), fun z => n4 (by rw [z]; exact hm)⟩
  have e1 := w1.joined inb
  have e2 := w2.foldR mb
  unfold Ere
  rcases leads_end w2 with z | z <;> rw [z]
  · exact e1
  · exact e1.trans e2
theorem split_at {l : List Int} {i j : Nat} (hi : i < l.length) (hj : j < l.length) (hij : i < j) : l = l.take i ++ l[i] :: l.drop (i + 1) ∧ l[j] ∈ l.drop (i + 1) := by
  refine ⟨?_, ?_⟩
  · rw [← List.drop_eq_getElem_cons hi, List.take_append_drop]
  · rw [List.mem_iff_getElem]
    refine ⟨j - (i + 1), by rw [List.length_drop]; omega, ?_⟩
    rw [List.getElem_drop]
    congr 1
    omega
theorem IsRing.up (h : IsRing ts ms a b l) : l.Pairwise (Ere ts ms a) := by
  rw [List.pairwise_iff_getElem]
  intro i j hi hj hij
  obtain ⟨e, hm⟩ := split_at hi hj hij
  exact h.ere e hm
end
/-! ### the search is one: which ties come, in which order -/
abbrev FlT := List (Int × Option (Int × Int))
open Classical in
noncomputable def ringL (ts : List (Int × Int)) (ws : List V) (s f : Int) : List Int := if h : ∃ l, IsRing ts (numsFrom f 0 ws) (tk ts s).1 (tk ts s).2 l then h.choose else []
noncomputable def grow (ts : List (Int × Int)) (ws : List V) (fl : FlT) (s f : Int) : FlT := fl ++ ((ringL ts ws s f).filter fun x => !decide (x ∈ fl.map Prod.fst)).map fun x => (x, some (s, f))
noncomputable def inF (ts : List (Int × Int)) (ws : List V) (s : Int) (fl : FlT) : Nat → FlT
  | 0 => fl
  | j + 1 => if ws[s.toNat]? = some (.int (j : Int)) then inF ts ws s fl j else grow ts ws (inF ts ws s fl j) s j
noncomputable def outF (ts : List (Int × Int)) (ws : List V) (k : Int) (tie : Nat) : Nat → FlT
  | 0 => [((tie : Int), none)]
  | a + 1 => match (outF ts ws k tie a)[a]? with
    | some p => inF ts ws p.1 (outF ts ws k tie a) k.toNat
    | none => outF ts ws k tie a
/-- the a-th is free in f -/
def Stp_ (ts : List (Int × Int)) (ws : List V) (k : Int) (tie : Nat) (a : Nat) (f : Int) : Prop := ∃ s o, (outF ts ws k tie a)[a]? = some (s, o) ∧ (0 ≤ f ∧ f < k) ∧ ws[s.toNat]? ≠ some (.int f) ∧ joinB ts ws (s, f) = false
/-- what the search has come to: the first that is free -/
structure Fst (ts : List (Int × Int)) (ws : List V) (k : Int) (tie : Nat) (a : Nat) (x f : Int) (fl : FlT) : Prop where
  fl_ : fl = inF ts ws x (outF ts ws k tie a) f.toNat
  key : ∃ o, (outF ts ws k tie a)[a]? = some (x, o)
  stop : Stp_ ts ws k tie a f
  ahead : ∀ a' f', (a' < a ∨ (a' = a ∧ f' < f)) → ¬ Stp_ ts ws k tie a' f'
theorem Fst.same {ts : List (Int × Int)} {ws : List V} {k : Int} {tie a a' : Nat} {x x' f f' : Int} {fl fl' : FlT} (h : Fst ts ws k tie a x f fl) (h' : Fst ts ws k tie a' x' f' fl') : a = a' ∧ x = x' ∧ f = f' ∧ fl = fl' := by
  have ea : a = a' := by
    rcases Nat.lt_trichotomy a a' with c | c | c
    · exact (h'.ahead a f (.inl c) h.stop).elim
    · exact c
    · exact (h.ahead a' f' (.inl c) h'.stop).elim
  subst ea
  have ef : f = f' := by
    by_cases c : f = f'
    · exact c
    · by_cases c2 : f < f'
      · exact (h'.ahead a f (.inr ⟨rfl, c2⟩) h.stop).elim
      · exact (h.ahead a f' (.inr ⟨rfl, by omega⟩) h'.stop).elim
  subst ef
  obtain ⟨o, e⟩ := h.key
  obtain ⟨o', e'⟩ := h'.key
  rw [e] at e'
  have ex : x = x' := by cases e'; rfl
  subst ex
  exact ⟨rfl, rfl, rfl, h.fl_.trans h'.fl_.symm⟩
/-- the pushes that lead to x -/
inductive Pth (fl : FlT) : Int → List (Int × Int) → Prop where
  | root {x : Int} (h : (x, none) ∈ fl) : Pth fl x []
  | step {x s f : Int} {es : List (Int × Int)} (h : (x, some (s, f)) ∈ fl) (p : Pth fl s es) : Pth fl x (es ++ [(s, f)])
theorem fl_one {fl : FlT} (nd : (fl.map Prod.fst).Nodup) {x : Int} {o o' : Option (Int × Int)} (h : (x, o) ∈ fl) (h' : (x, o') ∈ fl) : o = o' := by
  obtain ⟨i, hi⟩ := List.getElem?_of_mem h
  obtain ⟨j, hj⟩ := List.getElem?_of_mem h'
  have ei : (fl.map Prod.fst)[i]? = some x := by rw [List.getElem?_map, hi]; rfl
  have ej : (fl.map Prod.fst)[j]? = some x := by rw [List.getElem?_map, hj]; rfl
  obtain ⟨li, e1⟩ := List.getElem?_eq_some_iff.mp ei
  obtain ⟨lj, e2⟩ := List.getElem?_eq_some_iff.mp ej
  have := (List.getElem_inj nd).mp (e1.trans e2.symm)
  subst this
  rw [hi] at hj
  cases hj
  rfl
theorem Pth.same {fl : FlT} (nd : (fl.map Prod.fst).Nodup) {x : Int} {es es' : List (Int × Int)} (h : Pth fl x es) (h' : Pth fl x es') : es = es' := by
  induction h generalizing es' with
  | root h =>
    cases h' with
    | root _ => rfl
    | step h2 _ => cases fl_one nd h h2
  | step h p ih =>
    cases h' with
    | root h2 => cases fl_one nd h h2
    | step h2 p2 =>
      cases fl_one nd h h2
      rw [ih p2]
theorem Bfs.lv_same {ts : List (Int × Int)} {ws : List V} {k : Int} {tie : Nat} {fl : FlT} {lv lv' : Nat → Nat} {a a' : Nat} (h : Bfs ts ws k tie fl lv a) (h' : Bfs ts ws k tie fl lv' a') : ∀ i, i < fl.length → lv i = lv' i := by
  intro i
  induction i using Nat.strongRecOn with
  | _ i ih =>
    intro hi
    obtain ⟨x, o, hx⟩ : ∃ x o, fl[i]? = some (x, o) := ⟨fl[i].1, fl[i].2, List.getElem?_eq_getElem hi⟩
    cases o with
    | none => rw [h.root i x hx, h.lv0, h'.lv0]
    | some sf =>
      obtain ⟨j, hj, ⟨o1, e1⟩, l1, _⟩ := h.par i x sf.1 sf.2 hx
      obtain ⟨j', hj', ⟨o2, e2⟩, l2, _⟩ := h'.par i x sf.1 sf.2 hx
      have := h.one e1 e2
      subst this
      rw [l1, l2, ih j hj (by omega)]
end FF
namespace FF
open PySem PySem.Spec PyProof.Rows L2
variable [LT]
/-! ### what push_tie tells -/
def Laid_ (ts : List (Int × Int)) (k : Int) (ws : List V) (tie : Nat) (e : Int × Int) (es : List (Int × Int)) (ls : List Int) : Prop :=
  PRow ts ws k (e :: es) ∧ e.1 = (tie : Int) ∧ ls.length = ts.length ∧ (∀ y ∈ ls, 0 ≤ y ∧ y ≤ 121) ∧ LevP ts k ws tie ((e :: es).length : Int) ls ∧
  ∃ (fl : FlT) (lv : Nat → Nat) (a : Nat) (x g : Int) (mid : List (Int × Int)), Fst ts ws k tie a x g fl ∧ Bfs ts ws k tie fl lv a ∧ e :: es = mid ++ [(x, g)] ∧ Pth fl x mid ∧ (∀ (i : Nat) y o, fl[i]? = some (y, o) → hat ls y = lv i) ∧ ∀ y, 0 ≤ y → y < (ts.length : Int) → y ∉ fl.map Prod.fst → hat ls y = ((e :: es).length : Int)
def Full_ (ts : List (Int × Int)) (n k : Int) (ws : List V) (tie : Nat) (ls R : List Int) : Prop := Lot n ls ∧ EndsOf ts R ls ∧ Closed ts ws k R ∧ (tie : Int) ∈ R ∧ ∀ t, t ∈ R ↔ Rch ts ws k (tie : Int) t
def Told (ts : List (Int × Int)) (n k : Int) (ws : List V) (tie : Nat) (H : Hp) (x : Addr) : Prop :=
  (∃ (r c : Addr) (xs : List V) (e : Int × Int) (es : List (Int × Int)) (ls : List Int), H x = some (.tup [.str "laid", .ref r, .ref c]) ∧ H r = some (.tup xs) ∧ Ties H xs (e :: es) ∧ H c = some (.tup (ls.map V.int)) ∧ Laid_ ts k ws tie e es ls) ∨
  ∃ (c : Addr) (ls R : List Int), H x = some (.tup [.str "full", .ref c]) ∧ H c = some (.tup (ls.map V.int)) ∧ Full_ ts n k ws tie ls R
theorem Told.mono {ts : List (Int × Int)} {n k : Int} {ws : List V} {tie : Nat} {H H' : Hp} {x : Addr} (h : Told ts n k ws tie H x) (kk : ∀ q xs, H q = some (.tup xs) → H' q = some (.tup xs)) : Told ts n k ws tie H' x := by
  rcases h with ⟨r, c, xs, e, es, ls, h1, h2, h3, h4, h5⟩ | ⟨c, ls, R, h1, h2, h3⟩
  · exact .inl ⟨r, c, xs, e, es, ls, kk _ _ h1, kk _ _ h2, h3.mono kk, kk _ _ h4, h5⟩
  · exact .inr ⟨c, ls, R, kk _ _ h1, kk _ _ h2, h3⟩
theorem Laid_.same {ts : List (Int × Int)} {k : Int} {ws : List V} {tie : Nat} {e e' : Int × Int} {es es' : List (Int × Int)} {ls ls' : List Int} (h : Laid_ ts k ws tie e es ls) (h' : Laid_ ts k ws tie e' es' ls') : e :: es = e' :: es' ∧ ls = ls' := by
  obtain ⟨_, _, l1, _, _, fl, lv, a, x, g, mid, hF, hB, he, hp, hl, ho⟩ := h
  obtain ⟨_, _, l2, _, _, fl', lv', a', x', g', mid', hF', hB', he', hp', hl', ho'⟩ := h'
  obtain ⟨rfl, rfl, rfl, rfl⟩ := hF.same hF'
  have em := hp.same hB.nd hp'
  have ee : e :: es = e' :: es' := by rw [he, he', em]
  refine ⟨ee, ext_hat (l1.trans l2.symm) fun y y0 y1 => ?_⟩
  by_cases c : y ∈ fl.map Prod.fst
  · obtain ⟨p, hp, rfl⟩ := List.mem_map.mp c
    obtain ⟨i, hi⟩ := List.getElem?_of_mem hp
    rw [hl i p.1 p.2 hi, hl' i p.1 p.2 hi, hB.lv_same hB' i (List.getElem?_eq_some_iff.mp hi).1]
  · rw [ho y y0 (by omega) c, ho' y y0 (by omega) c, ee]
theorem sorted_one : ∀ {as bs : List Int}, as.Pairwise (· < ·) → bs.Pairwise (· < ·) → (∀ x, x ∈ as ↔ x ∈ bs) → as = bs := fun {as bs} ha hb h =>
  List.Perm.eq_of_pairwise (fun a b _ _ h1 h2 => by omega) ha hb ((List.perm_ext_iff_of_nodup (ha.imp fun z => by omega) (hb.imp fun z => by omega)).mpr h)
theorem Full_.same {ts : List (Int × Int)} {n k : Int} {ws : List V} {tie : Nat} {ls ls' R R' : List Int} (h : Full_ ts n k ws tie ls R) (h' : Full_ ts n k ws tie ls' R') : ls = ls' := by
  obtain ⟨h1, h2, _, _, h5⟩ := h
  obtain ⟨g1, g2, _, _, g5⟩ := h'
  refine sorted_one h1.up g1.up fun x => (h2.mem x).trans (Iff.trans ?_ (g2.mem x).symm)
  constructor
  · rintro ⟨t, ht, z⟩
    exact ⟨t, (g5 t).mpr ((h5 t).mp ht), z⟩
  · rintro ⟨t, ht, z⟩
    exact ⟨t, (h5 t).mpr ((g5 t).mp ht), z⟩
theorem Laid_.not_full {ts : List (Int × Int)} {n k : Int} {ws : List V} {tie : Nat} {e : Int × Int} {es : List (Int × Int)} {ls ls' R : List Int} (hw : ws.length = ts.length) (h : Laid_ ts k ws tie e es ls) (h' : Full_ ts n k ws tie ls' R) : False := h'.2.2.1.no_row hw rfl h.1 (by rw [h.2.1]; exact h'.2.2.2.1)
end FF
namespace FF
open PySem PySem.Spec PyProof.Rows L2
variable [LT]
/-! ### the data of what push_tie tells -/
def dE (es : List (Int × Int)) : PyData := .tuple (es.map fun e => .tuple [.int e.1, .int e.2])
theorem dE_sh (es : List (Int × Int)) : Sh 2 (dE es) := Sh.tup fun d hd => by
  obtain ⟨e, _, rfl⟩ := List.mem_map.mp hd
  refine (Sh.tup (k := 0) fun d hd => ?_)
  rcases List.mem_cons.mp hd with rfl | hd
  · exact Sh.int
  · rw [List.mem_singleton.mp hd]
    exact Sh.int
theorem Ties.dpA {K : PySem.W.Frag} {H : Hp} {xs : List V} {es : List (Int × Int)} (h : Ties H xs es) : DpAll K H xs (es.map fun e => .tuple [.int e.1, .int e.2]) := by
  unfold Ties at h
  induction h with
  | nil => exact .nil
  | cons a _ ih =>
    obtain ⟨q, rfl, hq⟩ := a
    exact .cons (.tup (sqT_of hq) (.cons (.int _) (.cons (.int _) .nil))) ih
theorem ints_sh (ls : List Int) : Sh 1 (.tuple (ls.map PyData.int)) := Sh.tup fun d hd => by
  obtain ⟨e, _, rfl⟩ := List.mem_map.mp hd
  exact Sh.int
theorem Sh.str {x : Str} (h : (PyData.str x).canLay0 = true := by decide +kernel) : Sh 0 (.str x) := ⟨h, Nat.le_refl _⟩
theorem Told.data {K : PySem.W.Frag} {ts : List (Int × Int)} {n k : Int} {ws : List V} {tie : Nat} {H : Hp} {x y : Addr} (hw : ws.length = ts.length) (h : Told ts n k ws tie H x) (h' : Told ts n k ws tie H y) : ∃ d, Dp K H (.ref x) d ∧ Dp K H (.ref y) d ∧ SeqAt.shaped d = true := by
  rcases h with ⟨r, c, xs, e, es, ls, h1, h2, h3, h4, h5⟩ | ⟨c, ls, R, h1, h2, h3⟩
  · rcases h' with ⟨r', c', xs', e', es', ls', g1, g2, g3, g4, g5⟩ | ⟨c', ls', R', g1, g2, g3⟩
    · obtain ⟨e1, e2⟩ := h5.same g5
      subst e2
      rw [← e1] at g3
      refine ⟨.tuple [.str "laid", dE (e :: es), .tuple (ls.map PyData.int)], .tup (sqT_of h1) (.cons (.str _) (.cons (.tup (sqT_of h2) h3.dpA) (.cons (.tup (sqT_of h4) (dp_ints ls)) .nil))), .tup (sqT_of g1) (.cons (.str _) (.cons (.tup (sqT_of g2) g3.dpA) (.cons (.tup (sqT_of g4) (dp_ints ls)) .nil))), (Sh.tup (k := 2) fun d hd => ?_).shaped⟩
      rcases List.mem_cons.mp hd with rfl | hd
      · exact Sh.up .str (Nat.zero_le _)
      rcases List.mem_cons.mp hd with rfl | hd
      · exact dE_sh _
      · rw [List.mem_singleton.mp hd]
        exact (ints_sh ls).up (by decide)
    · exact (h5.not_full hw g3).elim
  · rcases h' with ⟨r', c', xs', e', es', ls', g1, g2, g3, g4, g5⟩ | ⟨c', ls', R', g1, g2, g3⟩
    · exact (g5.not_full hw h3).elim
    · have e2 := h3.same g3
      subst e2
      refine ⟨.tuple [.str "full", .tuple (ls.map PyData.int)], .tup (sqT_of h1) (.cons (.str _) (.cons (.tup (sqT_of h2) (dp_ints ls)) .nil)), .tup (sqT_of g1) (.cons (.str _) (.cons (.tup (sqT_of g2) (dp_ints ls)) .nil)), (Sh.tup (k := 2) fun d hd => ?_).shaped⟩
      rcases List.mem_cons.mp hd with rfl | hd
      · exact Sh.up .str (Nat.zero_le _)
      · rw [List.mem_singleton.mp hd]
        exact (ints_sh ls).up (by decide)
end FF
namespace FF
open PySem PySem.Spec PyProof.Rows L2
variable [LT]
/-! ### strips: each tie brings a point that its forest has not touched -/
theorem layerOf_app {ts us : List (Int × Int)} {ws vs : List V} (h : ts.length = ws.length) (f : Int) : layerOf (ts ++ us) (ws ++ vs) f = layerOf ts ws f ++ layerOf us vs f := by
  unfold layerOf
  rw [List.zip_append h, List.filter_append, List.map_append]
theorem LayK.turn {ts : List (Int × Int)} {k : Int} {ws : List V} (h : LayK ts k ws) (r : Nat) : LayK (ts.drop r ++ ts.take r) k (ws.drop r ++ ws.take r) := by
  have hl := h.len
  refine ⟨by rw [List.length_append, List.length_append, List.length_drop, List.length_drop, List.length_take, List.length_take, hl], fun x hx => ?_, fun f => ?_⟩
  · rcases List.mem_append.mp hx with hx | hx
    · exact h.each x (List.mem_of_mem_drop hx)
    · exact h.each x (List.mem_of_mem_take hx)
  · have e : layerOf ts ws f = layerOf (ts.take r) (ws.take r) f ++ layerOf (ts.drop r) (ws.drop r) f := by
      rw [← layerOf_app (by rw [List.length_take, List.length_take, hl]), List.take_append_drop, List.take_append_drop]
    rw [layerOf_app (by rw [List.length_drop, List.length_drop, hl]), ringlessF_perm List.perm_append_comm, ← e]
    exact h.tree f
end FF
namespace FF
open PySem PySem.Spec PyProof.Rows L2
variable [LT]
/-! ### laying tie after tie -/
theorem row_laid {ts : List (Int × Int)} {ws : List V} {k : Int} : ∀ {es : List (Int × Int)} {e : Int × Int} {r : List (Int × Int)}, es = e :: r → PRow ts ws k es → ∀ x ∈ r, ws[x.1.toNat]? ≠ some .non
  | [], _, _, h0, _ => nomatch h0
  | [e], _, _, h0, _ => by
    cases h0
    exact fun _ z => nomatch z
  | e :: e' :: r, _, _, h0, hp => by
    cases h0
    intro x hx
    rcases List.mem_cons.mp hx with rfl | hx
    · have h := (nums_iff.mp (pushB_parts.mp hp.push).2.1.1).2
      rw [h]
      exact fun z => nomatch z
    · exact row_laid rfl hp.tail x hx
theorem pushL_out : ∀ (es : List (Int × Int)) {ws : List V} {i : Nat}, (∀ e ∈ es, e.1.toNat ≠ i) → (pushL ws es)[i]? = ws[i]?
  | [], _, _, _ => rfl
  | e :: es, ws, i, h => by
    show (pushL (ws.set e.1.toNat (.int e.2)) es)[i]? = _
    rw [pushL_out es fun x hx => h x (List.mem_cons_of_mem _ hx), List.getElem?_set_ne (h e List.mem_cons_self)]
theorem pushL_some : ∀ (es : List (Int × Int)) {ws : List V} {i : Nat}, ws[i]? ≠ some .non → (pushL ws es)[i]? ≠ some .non
  | [], _, _, h => h
  | e :: es, ws, i, h => by
    show (pushL (ws.set e.1.toNat (.int e.2)) es)[i]? ≠ _
    refine pushL_some es ?_
    by_cases c : e.1.toNat = i
    · subst c
      rw [List.getElem?_set_self']
      cases ws[e.1.toNat]? with
      | none => exact fun z => nomatch z
      | some _ => exact fun z => nomatch z
    · rw [List.getElem?_set_ne c]
      exact h
theorem pushL_mem : ∀ (es : List (Int × Int)) {ws : List V} {e : Int × Int}, e ∈ es → (pushL ws es)[e.1.toNat]? ≠ some .non
  | d :: es, ws, e, he => by
    show (pushL (ws.set d.1.toNat (.int d.2)) es)[e.1.toNat]? ≠ _
    rcases List.mem_cons.mp he with rfl | he
    · refine pushL_some es ?_
      rw [List.getElem?_set_self']
      cases ws[e.1.toNat]? with
      | none => exact fun z => nomatch z
      | some _ => exact fun z => nomatch z
    · exact pushL_mem es he
theorem Laid_.step {ts : List (Int × Int)} {k : Int} {ws : List V} {tie : Nat} {e : Int × Int} {es : List (Int × Int)} {ls : List Int} (hL : LayK ts k ws) (h0 : ws[tie]? = some .non) (h : Laid_ ts k ws tie e es ls) :
    LayK ts k (pushL ws (e :: es)) ∧ ∀ i : Nat, (pushL ws (e :: es))[i]? = some .non ↔ ws[i]? = some .non ∧ i ≠ tie := by
  obtain ⟨h1, h2, h3, h4, h5, _⟩ := h
  refine ⟨(h1.lays hL h2 h5 h0).1, fun i => ⟨fun z => ⟨?_, fun c => ?_⟩, fun ⟨z, c⟩ => ?_⟩⟩
  · by_cases c : ws[i]? = some .non
    · exact c
    · exact (pushL_some _ c z).elim
  · have := pushL_mem (e :: es) (ws := ws) (e := e) List.mem_cons_self
    rw [show e.1.toNat = i by omega] at this
    exact this z
  · rw [pushL_out, z]
    intro x hx
    rcases List.mem_cons.mp hx with rfl | hx
    · omega
    · intro q
      have := row_laid rfl h1 x hx
      rw [q] at this
      exact this z
end FF
namespace FF
open PySem PySem.Spec PyProof.Rows L2
variable [LT]
/-! ### sorted(set), any number of members -/
section
variable {P : Program} {w : World} {A : Around} {E : Value → Shared → Prop} {s : Shared}
end
section
variable {X : Cx}
end
end FF
namespace FF
open PySem PySem.Spec PyProof.Rows L2
variable [LT]
/-! ### every second one of a list -/
section
variable {X : Cx}
end
end FF
namespace FF
open PySem PySem.Spec PyProof.Rows L2
variable [LT]
/-! ### numbers in the order of their first places -/
/-! ### the parting around lots -/
/-! ### tight lots -/
structure TightL (ts : List (Int × Int)) (n k : Int) (ws : List V) (ls : List Int) : Prop where
  lot : Lot n ls
  tight : ∀ f, 0 ≤ f → f < k → inside ls (layerOf ts ws f) + 1 = ls.length
theorem nub_all {l : List Int} (h : (nub l).length = 1) {a b : Int} (ha : a ∈ l) (hb : b ∈ l) : a = b := by
  have ha := (mem_nub l a).mpr ha
  have hb := (mem_nub l b).mpr hb
  match nub l, h, ha, hb with
  | [c], _, ha, hb => rw [List.mem_singleton.mp ha, List.mem_singleton.mp hb]
theorem tight_joined {n : Int} {ls : List Int} {L : List (Int × Int)} (h : ringlessF (fun x => x) L = true) (hl : Lot n ls) (ht : inside ls L + 1 = ls.length) {x y : Int} (hx : x ∈ ls) (hy : y ∈ ls) :
    foldR (fun x => x) (L.filter fun t => decide (t.1 ∈ ls) && decide (t.2 ∈ ls)) x = foldR (fun x => x) (L.filter fun t => decide (t.1 ∈ ls) && decide (t.2 ∈ ls)) y := by
  have c := lot_count (ls := ls) (ringlessF_filter (fun t => decide (t.1 ∈ ls) && decide (t.2 ∈ ls)) h) fun t ht => by
    have := (List.mem_filter.mp ht).2
    rw [Bool.and_eq_true, decide_eq_true_eq, decide_eq_true_eq] at this
    exact this
  rw [List.map_id', nub_of_nd hl.nd] at c
  have ht : (L.filter fun t => decide (t.1 ∈ ls) && decide (t.2 ∈ ls)).length + 1 = ls.length := ht
  exact nub_all (by omega) (List.mem_map.mpr ⟨x, hx, rfl⟩) (List.mem_map.mpr ⟨y, hy, rfl⟩)
/-! ### a lot stays tight -/
theorem laidT_sub : ∀ {ts : List (Int × Int)} {ws ws' : List V}, ws'.length = ws.length → (∀ i : Nat, ws'[i]? = some .non → ws[i]? = some .non) → (laidT ts ws).Sublist (laidT ts ws')
  | [], _, _, _, _ => by
    unfold laidT
    rw [List.zip_nil_left]
    exact List.nil_sublist _
  | t :: ts, [], _, _, _ => by
    unfold laidT
    rw [List.zip_nil_right]
    exact List.nil_sublist _
  | t :: ts, x :: ws, [], hl, _ => by cases hl
  | t :: ts, x :: ws, y :: ws', hl, h => by
    rw [laidT_cons, laidT_cons]
    refine List.Sublist.append ?_ (laidT_sub (Nat.succ.inj hl) fun i => h (i + 1))
    by_cases e : y = V.non
    · have h0 := h 0
      have : x = V.non := Option.some.inj (h0 (by rw [e]; rfl))
      rw [if_pos this]
      exact List.nil_sublist _
    · rw [if_neg e]
      split
      · exact List.nil_sublist _
      · exact .refl _
theorem TightL.stay {ts : List (Int × Int)} {n k : Int} {ws ws' : List V} {ls : List Int} (h : TightL ts n k ws ls) (hk : 0 ≤ k) (hL : LayK ts k ws) (hL' : LayK ts k ws') (hs : ∀ i : Nat, ws'[i]? = some .non → ws[i]? = some .non) : TightL ts n k ws' ls := by
  refine ⟨h.lot, fun f f0 f1 => ?_⟩
  have h1 := (tight_iff hL hk h.lot.nd h.lot.ne).mpr fun f f0 f1 => by have := h.tight f f0 f1; omega
  have hsub : inside ls (laidT ts ws) ≤ inside ls (laidT ts ws') := ((laidT_sub (hL'.len.trans hL.len.symm) hs).filter _).length_le
  have hmost := (sum_most (s := (ls.length : Int) - 1) (g := fun f => (inside ls (layerOf ts ws' f) : Int)) (l := upTo k) fun f _ => by
    have := inside_forest (hL'.tree f) h.lot.nd h.lot.ne
    show (inside ls (layerOf ts ws' f) : Int) ≤ _
    omega).1
  rw [← inside_laid ls hL'.len hL'.each, upTo_length, show ((k.toNat : Nat) : Int) = k by omega] at hmost
  have := (tight_iff hL' hk h.lot.nd h.lot.ne).mp (by omega) f f0 f1
  omega
theorem Full_.tight {ts : List (Int × Int)} {n k : Int} {ws : List V} {tie : Nat} {ls R : List Int} (hL : LayK ts k ws) (h : Full_ ts n k ws tie ls R) : TightL ts n k ws ls ∧ (tk ts (tie : Int)).1 ∈ ls ∧ (tk ts (tie : Int)).2 ∈ ls := by
  obtain ⟨h1, h2, h3, h4, _⟩ := h
  refine ⟨⟨h1, fun f f0 f1 => h3.tree hL.len h2 (fun z => by rw [z] at h4; cases h4) hL.tree f0 f1⟩, (h2.mem _).mpr ⟨_, h4, .inl rfl⟩, (h2.mem _).mpr ⟨_, h4, .inr rfl⟩⟩
end FF
namespace FF
open PySem PySem.Spec PyProof.Rows L2
variable [LT]
/-! ### len of a dict, and layings that grow with lots noted -/
end FF
namespace FF
open PySem PySem.Spec PyProof.Rows L2
variable [LT]
/-! ### no laying lays more than the bound of a parting -/
end FF
namespace FF
open PySem PySem.Spec PyProof.Rows L2
variable [LT]
/-! ### min of a list -/
/-! ### all partings -/
end FF
namespace FF
open PySem PySem.Spec PyProof.Rows L2
variable [LT]
/-! ### as few forests as do -/
end FF
namespace FF
open PySem PySem.Spec PyProof.Rows L2
variable [LT]
/-! ### an empty tuple times an int -/
section
variable {X : Cx}
end
/-! ### whether no lot is full, by all lots -/
def canF (n : Nat) (ts : List (Int × Int)) (k : Int) : Bool := ((lotsF n).filter fun l => !l.isEmpty).all fun l => decide ((inside l ts : Int) ≤ k * ((l.length : Int) - 1))
theorem canF_iff {n : Nat} {ts : List (Int × Int)} {k : Int} : canF n ts k = true ↔ ∀ ls, Lot (n : Int) ls → (inside ls ts : Int) ≤ k * ((ls.length : Int) - 1) := by
  unfold canF
  rw [List.all_eq_true]
  constructor
  · intro h ls hL
    refine of_decide_eq_true (h ls (List.mem_filter.mpr ⟨lotsF_all n hL.up hL.ok, ?_⟩))
    cases ls with
    | nil => exact absurd rfl hL.ne
    | cons _ _ => rfl
  · intro h l hl
    obtain ⟨h1, h2⟩ := List.mem_filter.mp hl
    obtain ⟨o1, o2, _⟩ := lotsF_ok n l h1
    exact decide_eq_true (h l ⟨fun z => (by rw [z] at h2; cases h2), o1, o2⟩)
end FF
namespace FF
open PySem PySem.Spec PyProof.Rows L2
variable [LT]
/-! ### webs of which the fewest forests are known -/
end FF
namespace FF
open PySem PySem.Spec PyProof.Rows L2
variable [LT]
/-! ### [.. for .. in .. for .. in ..] -/
section
variable {X : Cx}
end
end FF
namespace FF
open PySem PySem.Spec PyProof.Rows L2
variable [LT]
/-! ### xs.remove(y): data of any depth -/
section
variable {X : Cx}
open PyProof
end
/-! ### ties at a point -/
end FF
namespace FF
open PySem PySem.Spec PyProof.Rows L2
variable [LT]
/-! ### defs that raise; try .. except; isinstance of what was caught -/
theorem DefAt.okE {P : Program} {w : World} {K : PySem.W.Frag} {mg : Str → Option Value} {base : Heap} {x : Str} {st : Stmt} {f : Addr} {fd : FuncData} {N ps : List Str} {k : Nat} {sp : Sp} (D : DefAt K mg x st ps f fd) (S : FnScope N ps (defScope st)) (len : ∀ vs H Q E, sp vs H Q E → vs.length = ps.length)
    (hbody : ∀ (A : Around) (outer : List Env) (s : Shared) (H : Hp) (vs : List V) (Q : VK) (E : XK), Room k (A.deeper (envOfC x (defScope st) s.heap.objs.size f fd.code)) → sp vs H Q E →
      ∃ t, PSs (cxOf (L2.CX P w) P w K mg base N x (defScope st) f fd.code A outer s H E) (defBody st) t ∧ t { nx := fun _ H' => Q .non H', rt := Q } (start N vs) H) : FnOk P w K mg base (L2.CX P w) (k + 1) f fd ps sp := by
  obtain ⟨oc, od, dV, kV, doc, pm, an, cdv, ct, osl, rfl, lk, hcd, _, _⟩ := D.F.ex
  exact fn_of lk hcd S len hbody
theorem ps_nox {X : Cx} {st : Stmt} {t : TS} (h : PS X.nox st t) : PS X st t := ⟨fun pins s σ H D I hw =>
  wpAny_mono (h.run pins s σ H D (I.wish _) hw) (fun _ _ q => q.unwish) fun _ _ z => False.elim z⟩
theorem takesN {X : Cx} : Takes X (fun _ _ _ _ => False) := fun _ _ x => by
  obtain ⟨_, _, _, _, _, _, _, _, _, _, _, _, _, _, _, _, z⟩ := x
  exact z.elim

/-! #### what is told of the classes -/
inductive Xf where
  | glo (x : Str) | exc (x : Str) | ec (x : Str) | exm (x y : Str) (b : Bool) | kit (x y : Str) (b : Bool) | kitT (x : Str) (t : String) (b : Bool)
  deriving DecidableEq
def ecB (K : PySem.W.Frag) (D : Addr) : Bool :=
  He.eqO (PySem.W.findIn K (.ref D) "__getattribute__") (some (some (.builtin "BaseException.__getattribute__"))) && (He.eqO (PySem.W.findIn K (.ref D) "__getattr__") (some none) &&
  (decide (PySem.W.subIn K (.ref D) (.type "BaseException") = some true) && (PySem.W.hasDictIn K D && (He.eqO (PySem.W.findIn K (.ref D) "__class__") (some (some (.builtin "object.__class__"))) &&
  (He.eqO (PySem.W.specialIn K (.builtin "object.__class__") "__get__") (some (some (.builtin "getset_descriptor.__get__"))) && (decide (PySem.W.takesIn K (.builtin "object.__class__") = some true) && decide (PySem.W.mroIn K D (.type "object") = some true)))))))
def Xf.ok (K : PySem.W.Frag) : Xf → Bool
  | .glo x => (He.Fa.glo x).ok K
  | .exc x => (He.Fa.exc x).ok K
  | .ec x => ecB K (He.ga K x)
  | .exm x y b => (He.Fa.exm x y b).ok K
  | .kit x y b => decide (PySem.W.kitOne K (.ref (He.ga K x)) (.ref (He.ga K y)) = some b)
  | .kitT x t b => decide (PySem.W.kitOne K (.ref (He.ga K x)) (.type t) = some b)
theorem ec_ok {K : PySem.W.Frag} {x : Str} (c : (Xf.ec x).ok K = true) : ExcC K (He.ga K x) := by
  obtain ⟨c1, c⟩ := He.ba c
  obtain ⟨c2, c⟩ := He.ba c
  obtain ⟨c3, c⟩ := He.ba c
  obtain ⟨c4, c⟩ := He.ba c
  obtain ⟨c5, c⟩ := He.ba c
  obtain ⟨c6, c⟩ := He.ba c
  obtain ⟨c7, c8⟩ := He.ba c
  exact ⟨He.eqO_ok c1, He.eqO_ok c2, of_decide_eq_true c3, c4, He.eqO_ok c5, He.eqO_ok c6, of_decide_eq_true c7, of_decide_eq_true c8⟩
/-- the classes' facts -/
structure Xcs (xfs : List Xf) (K : PySem.W.Frag) (mg : Str → Option Value) : Prop where
  ok : ∀ f ∈ xfs, f.ok K = true
  g : ∀ x, Xf.glo x ∈ xfs → mg x = some (.ref (He.ga K x))
theorem Xcs.mk' {xfs : List Xf} {K : PySem.W.Frag} {h : Heap} {mg : Str → Option Value} (X : K.In h) (G : h.Ns mainGlobals mg) (c : (xfs.all fun f => f.ok K) = true) : Xcs xfs K mg :=
  ⟨List.all_eq_true.mp c, fun x hx => He.glo_ok X G (List.all_eq_true.mp c _ hx)⟩
section
variable {xfs : List Xf} {K : PySem.W.Frag} {mg : Str → Option Value} (c : Xcs xfs K mg)
include c
theorem Xcs.exm {x y : Str} {b : Bool} (h : Xf.exm x y b ∈ xfs) : PySem.W.exmOne K (.ref (He.ga K x)) (.ref (He.ga K y)) = some b := He.exm_ok (c.ok _ h)
theorem Xcs.kit {x y : Str} {b : Bool} (h : Xf.kit x y b ∈ xfs) : PySem.W.kitOne K (.ref (He.ga K x)) (.ref (He.ga K y)) = some b := of_decide_eq_true (c.ok _ h)
theorem Xcs.kitT {x : Str} {t : String} {b : Bool} (h : Xf.kitT x t b ∈ xfs) : PySem.W.kitOne K (.ref (He.ga K x)) (.type t) = some b := of_decide_eq_true (c.ok _ h)
theorem Xcs.ec {x : Str} (h : Xf.ec x ∈ xfs) : ExcC K (He.ga K x) := ec_ok (c.ok _ h)
end
/-- raise C('..') -/
theorem ps_raiseC {X : Cx} {W : WX} {xfs : List Xf} {x m : Str} {j : Nat} {p p2 pos pos2 : Pos} (c : Xcs xfs X.K X.mg) (hx : Xf.exc x ∈ xfs) (hg : Xf.glo x ∈ xfs) (hc : X.calm = true) (tk : Takes X W) (hgl : Gl X x)
    (hdb : (x == ("__debug__" : Str)) = false := by decide) : PS X (.Raise (some (.Call (.Name x p) [.Constant (.str m) j p2] [] pos)) none pos2) (fun _ σ H => W (.ref (He.ga X.K x)) none σ H) := by
  obtain ⟨c1, c2, c3, c4⟩ := He.exc_ok (c.ok _ hx)
  exact ps_raise hc tk (pmk_own PySem.F.excBase_ValueError c1 (c.g _ hg) c2 (raises_own c3 c4) hgl hdb)
/-! #### what was caught, frozen -/
section
variable {X : Cx}
end
/-! #### try: .. except x as n: suite; what was caught stays, frozen -/
section
variable {X : Cx} {x n : Str} {c : Value} {i : Nat} {body suite : List Stmt} {b0 : Stmt} {np pos pos' : Pos} {tb : WX → TS} {ts : Addr → Value → Option Addr → TS} {Wo : WX}
end
end FF
namespace FF
open PySem PySem.Spec PyProof.Rows L2
variable [LT]
/-! ### drawn partings -/
end FF
namespace FF
open PySem PySem.Spec PyProof.Rows L2
variable [LT]
/-! ### webs drawn together -/
/-- a tie moved, the lesser end first -/
def mvT (f : Int → Int) (t : Int × Int) : Int × Int := (if f t.2 < f t.1 then f t.2 else f t.1, if f t.2 > f t.1 then f t.2 else f t.1)
theorem firstAt_at {fs : List Int} (nd : fs.Nodup) {i : Nat} {x : Int} (h : fs[i]? = some x) : firstAt fs x = i := by
  have hx := List.mem_of_getElem? h
  have h1 := firstAt_get hx
  have l1 := (List.getElem?_eq_some_iff.mp h1).1
  have l2 := (List.getElem?_eq_some_iff.mp h).1
  have e := (List.getElem?_eq_some_iff.mp h1).2.trans (List.getElem?_eq_some_iff.mp h).2.symm
  exact (List.getElem_inj nd).mp e
theorem rise_nd {ls : List Int} (h : ls.Pairwise (· < ·)) : ls.Nodup := h.imp fun z => by omega
theorem upTo_get {n x : Int} (h0 : 0 ≤ x) (h1 : x < n) : (upTo n)[x.toNat]? = some x := by
  unfold upTo
  rw [List.getElem?_map, List.getElem?_range (by omega)]
  show some ((x.toNat : Int)) = some x
  rw [Int.toNat_of_nonneg h0]
/-! ### lots that are walked; the data of webs -/
theorem Lot.le {n : Int} {ls : List Int} (h : Lot n ls) : (ls.length : Int) ≤ n := by
  obtain ⟨x, hx⟩ := List.exists_mem_of_ne_nil _ h.ne
  have := h.ok x hx
  have := nd_le (rise_nd h.up) (m := upTo n) fun y hy => upTo_mem.mpr (h.ok y hy)
  rw [upTo_length] at this
  omega
theorem Lot.tie {n a b : Int} (h0 : 0 ≤ a) (h1 : a < b) (h2 : b < n) : Lot n [a, b] := ⟨List.cons_ne_nil _ _, .cons (fun y hy => by rw [List.mem_singleton.mp hy]; exact h1) (List.pairwise_singleton _ _), fun x hx => by
  rcases List.mem_cons.mp hx with rfl | hx
  · exact ⟨h0, by omega⟩
  · rw [List.mem_singleton.mp hx]
    exact ⟨by omega, h2⟩⟩
def dWeb (n : Int) (ts : List (Int × Int)) : PyData := .tuple [.int n, dE ts]
theorem Web.dp {K : PySem.W.Frag} {H : Hp} {v : V} {n : Int} {ts : List (Int × Int)} (W : Web H v n ts) : Dp K H v (dWeb n ts) := by
  obtain ⟨t, u, rs, rfl, h1, h2, h3⟩ := W
  exact .tup (sqT_of h1) (.cons (.int _) (.cons (.tup (sqT_of h2) h3.dpA) .nil))
theorem dWeb_sh (n : Int) (ts : List (Int × Int)) : Sh 3 (dWeb n ts) := Sh.tup fun d hd => by
  rcases List.mem_cons.mp hd with rfl | hd
  · exact Sh.int.up (by decide)
  · rw [List.mem_singleton.mp hd]
    exact dE_sh _
theorem Lot.head {n : Int} {ls : List Int} (h : Lot n ls) : ls.headD 0 ∈ ls := by
  cases e : ls with
  | nil => exact absurd e h.ne
  | cons x r => exact List.mem_cons_self
end FF
namespace FF
open PySem PySem.Spec PyProof.Rows L2
variable [LT]
/-! ### sorted(tuple of ints) -/
section
variable {prog : Program} {w : World} {A : Around} {E : Value → Shared → Prop} {s : Shared}
end
end FF
namespace FF
open PySem PySem.Spec PyProof.Rows L2
variable [LT]
/-! ### glued layings -/
theorem ringlessF_mv (g : Int → Int) : ∀ (L : List (Int × Int)) (r : Int → Int), ringlessF r (L.map (mvT g)) = ringlessF (fun x => r (g x)) L
  | [], _ => rfl
  | t :: L, r => by
    show (if r (mvT g t).1 = r (mvT g t).2 then false else ringlessF (rstep r (mvT g t)) (L.map (mvT g))) = (if r (g t.1) = r (g t.2) then false else ringlessF (rstep (fun x => r (g x)) t) L)
    rw [ringlessF_mv g L]
    have key : (mvT g t = (g t.1, g t.2)) ∨ mvT g t = (g t.2, g t.1) := by
      unfold mvT
      by_cases c : g t.2 < g t.1
      · rw [if_pos c, if_neg (by omega)]
        exact .inr rfl
      · rw [if_neg c]
        split
        · exact .inl rfl
        · exact .inl (by rw [show g t.1 = g t.2 by omega])
    rcases key with e | e
    · rw [e]
      rfl
    · rw [e]
      dsimp only
      by_cases c : r (g t.1) = r (g t.2)
      · rw [if_pos c, if_pos c.symm]
      · rw [if_neg c, if_neg (fun z => c z.symm)]
        refine ringlessF_ker L fun x y => ?_
        have k2 : ∀ X Y A B : Int, A ≠ B → (((if X = A then B else X) = if Y = A then B else Y) ↔ (if X = B then A else X) = if Y = B then A else Y) := by
          intro X Y A B h
          split <;> split <;> split <;> split <;> omega
        exact k2 _ _ _ _ c
end FF
namespace FF
open PySem PySem.Spec PyProof.Rows L2
variable [LT]
/-! ### lots of the inner web, in the web -/
end FF
namespace FF
open PySem PySem.Spec PyProof.Rows L2
variable [LT]
/-! ### things that are looked at as webs -/
def tieO (n : Int) : Option (List V) → Bool
  | some [x, .int j] => isNum (.int j) 0 (n - 1) && isNum x 0 (j - 1)
  | _ => false
theorem tieO_len {n : Int} {xs : List V} (h : xs.length ≠ 2) : tieO n (some xs) = false := by
  cases xs with
  | nil => rfl
  | cons x xs =>
    cases xs with
    | nil => rfl
    | cons y xs =>
      cases xs with
      | nil => exact absurd rfl h
      | cons z xs => cases y <;> rfl
theorem tieO_two {n : Int} {x y : V} (h : isNum y 0 (n - 1) = false) : tieO n (some [x, y]) = false := by
  cases y with
  | int j => show (isNum (.int j) 0 (n - 1) && _) = false; rw [h, Bool.false_and]
  | _ => rfl
inductive WT (H : Hp) : V → Bool → Prop
  | no {v : V} {nm : String} (h : TyN H v nm) (hn : nm ≠ "tuple") : WT H v false
  | len {a : Addr} {xs : List V} (h : H a = some (.tup xs)) (hl : xs.length ≠ 2) : WT H (.ref a) false
  | pts {a : Addr} {x y : V} {nm : String} (h : H a = some (.tup [x, y])) (hx : TyN H x nm) (hb : isNum x 1 40 = false) : WT H (.ref a) false
  | tys {a : Addr} {n : Int} {y : V} {nm : String} (h : H a = some (.tup [.int n, y])) (h0 : 1 ≤ n) (h1 : n ≤ 40) (hy : TyN H y nm) (hn : nm ≠ "tuple") : WT H (.ref a) false
  | many {a u : Addr} {n : Int} {rs : List V} (h : H a = some (.tup [.int n, .ref u])) (h0 : 1 ≤ n) (h1 : n ≤ 40) (hu : H u = some (.tup rs)) (hl : 120 < rs.length) : WT H (.ref a) false
  | ties {a u : Addr} {n : Int} {rs : List V} {os : List (Option (List V))} (h : H a = some (.tup [.int n, .ref u])) (h0 : 1 ≤ n) (h1 : n ≤ 40) (hu : H u = some (.tup rs)) (hl : rs.length ≤ 120) (hr : Paired (Tpl H) rs os) : WT H (.ref a) (os.all (tieO n))
theorem Ties.tpl {H : Hp} : ∀ {rs : List V} {ts : List (Int × Int)}, Ties H rs ts → Paired (Tpl H) rs (ts.map fun t => some [V.int t.1, .int t.2])
  | _, _, .nil => .nil
  | _, _, .cons ⟨q, e, h⟩ t => by
    subst e
    exact .cons (.yes h fun x hx => by
      rcases List.mem_cons.mp hx with rfl | hx
      · exact ⟨_, .int _⟩
      · rw [List.mem_singleton.mp hx]
        exact ⟨_, .int _⟩) (Ties.tpl t)
theorem tieO_ok {n : Int} {t : Int × Int} : tieO n (some [V.int t.1, .int t.2]) = true ↔ 0 ≤ t.1 ∧ t.1 < t.2 ∧ t.2 < n := by
  show (((decide (0 ≤ t.2) && decide (t.2 ≤ n - 1)) && (decide (0 ≤ t.1) && decide (t.1 ≤ t.2 - 1))) = true) ↔ _
  rw [Bool.and_eq_true, Bool.and_eq_true, Bool.and_eq_true, decide_eq_true_eq, decide_eq_true_eq, decide_eq_true_eq, decide_eq_true_eq]
  omega
theorem Web.wt {H : Hp} {v : V} {n : Int} {ts : List (Int × Int)} (W : Web H v n ts) (ok : TOk n ts) (h0 : 1 ≤ n) (h1 : n ≤ 40) (hl : ts.length ≤ 120) : WT H v true := by
  obtain ⟨t, u, rs, rfl, h2, h3, h4⟩ := W
  have e : ((ts.map fun t => some [V.int t.1, .int t.2]).all (tieO n)) = true := List.all_eq_true.mpr fun o ho => by
    obtain ⟨t, ht, rfl⟩ := List.mem_map.mp ho
    exact tieO_ok.mpr (ok t ht)
  rw [← e]
  exact .ties h2 h0 h1 h3 (by rw [h4.length]; exact hl) h4.tpl
theorem WT.ke {H H' : Hp} {v : V} {b : Bool} (h : WT H v b) (k : Ke H H') : WT H' v b := by
  cases h with
  | no h hn => exact .no (h.ke k) hn
  | len h hl => exact .len (k.tup h) hl
  | pts h hx hb => exact .pts (k.tup h) (hx.ke k) hb
  | tys h h0 h1 hy hn => exact .tys (k.tup h) h0 h1 (hy.ke k) hn
  | many h h0 h1 hu hl => exact .many (k.tup h) h0 h1 (k.tup hu) hl
  | ties h h0 h1 hu hl hr => exact .ties (k.tup h) h0 h1 (k.tup hu) hl (Paired.mapP hr fun _ _ z => z.ke k)
end FF
namespace FF
open PySem PySem.Spec PyProof.Rows L2
variable [LT]
/-! ### rows of things that are not ties, and of things that are no webs -/
theorem WT.mono {H H' : Hp} {v : V} {b : Bool} (h : WT H v b) (k : ∀ q xs, H q = some (.tup xs) → H' q = some (.tup xs)) (y : ∀ v n, TyN H v n → TyN H' v n) : WT H' v b := by
  cases h with
  | no h hn => exact .no (y _ _ h) hn
  | len h hl => exact .len (k _ _ h) hl
  | pts h hx hb => exact .pts (k _ _ h) (y _ _ hx) hb
  | tys h h0 h1 hy hn => exact .tys (k _ _ h) h0 h1 (y _ _ hy) hn
  | many h h0 h1 hu hl => exact .many (k _ _ h) h0 h1 (k _ _ hu) hl
  | ties h h0 h1 hu hl hr => exact .ties (k _ _ h) h0 h1 (k _ _ hu) hl (Paired.mapP hr fun _ _ z => z.mono k y)
/-- points that are none, with any ties -/
structure PTs (H : Hp) (xs : List V) : Prop where
  all : ∀ x ∈ xs, ∃ nm, TyN H x nm ∧ isNum x 1 40 = false
theorem PTs.nil {H : Hp} : PTs H [] := ⟨fun _ z => nomatch z⟩
theorem PTs.cons {H : Hp} {x : V} {nm : String} {xs : List V} (h : TyN H x nm) (e : isNum x 1 40 = false) (t : PTs H xs) : PTs H (x :: xs) := ⟨fun y hy => by
  rcases List.mem_cons.mp hy with rfl | hy
  · exact ⟨nm, h, e⟩
  · exact t.all y hy⟩
theorem PTs.ke {H H' : Hp} {xs : List V} (h : PTs H xs) (k : Ke H H') : PTs H' xs := ⟨fun x hx => by
  obtain ⟨o, t, e⟩ := h.all x hx
  exact ⟨o, t.ke k, e⟩⟩
theorem PTs.sub {H : Hp} {xs ys : List V} (h : PTs H xs) (k : ∀ y ∈ ys, y ∈ xs) : PTs H ys := ⟨fun y hy => h.all y (k y hy)⟩
theorem PTs.new {H : Hp} {p : Addr} {o : HO} {xs : List V} (h : PTs H xs) (k : H p = none) : PTs (upd H p o) xs := h.ke (Ke.new k)
theorem PTs.wt {H H' : Hp} {xs : List V} {x y : V} {p : Addr} (h : PTs H xs) (hx : x ∈ xs) (k : Ke H H') (hp : H' p = some (.tup [x, y])) : WT H' (.ref p) false := by
  obtain ⟨nm, t, e⟩ := h.all x hx
  exact .pts hp (t.ke k) e
end FF
namespace FF
open PySem PySem.Spec PyProof.Rows L2
variable [LT]
/-! ### l != [] by lengths alone -/
section
variable {X : Cx}
end
/-! ### str(x) of an int or None -/
section
variable {X : Cx}
end
end FF
namespace FF
open PySem PySem.Spec PyProof.Rows L2
variable [LT]
/-! ### how many ties lie between the parts: paths, rounds, full webs -/
/-! ### the most trees of webs that are known -/
end FF
namespace FF
open PySem PySem.Spec PyProof.Rows L2
variable [LT]
/-! ### a class by its name, within a suite too -/
end FF
namespace FF
open PySem PySem.Spec PyProof.Rows L2
variable [LT]
/-! ### tuples that are known to the object: displays and + -/
/-- kinds of things, tuples known to the object among them -/
inductive TyF (H : Hp) : V → String → Prop where
  | non : TyF H .non "NoneType"
  | bl (b : Bool) : TyF H (.bl b) "bool"
  | int (i : Int) : TyF H (.int i) "int"
  | str (x : Str) : TyF H (.str x) "str"
  | lst {a : Addr} {xs : List V} (h : H a = some (.lst xs)) : TyF H (.ref a) "list"
  | tup {a : Addr} {xs : List V} (h : H a = some (.tup xs)) : TyF H (.ref a) "tuple"
  | dic {a : Addr} {kvs : List (Key × V)} (h : H a = some (.dK kvs)) : TyF H (.ref a) "dict"
  | tf {a : Addr} {xs : List V} (h : TF H a xs) : TyF H (.ref a) "tuple"
theorem TyN.f {H : Hp} {v : V} {n : String} (h : TyN H v n) : TyF H v n := by
  cases h with
  | non => exact .non
  | bl b => exact .bl b
  | int i => exact .int i
  | str x => exact .str x
  | lst h => exact .lst h
  | tup h => exact .tup h
  | dic h => exact .dic h
theorem TyF.split {H : Hp} {v : V} {n : String} (h : TyF H v n) : TyN H v n ∨ (n = "tuple" ∧ ∃ a xs, v = .ref a ∧ TF H a xs) := by
  cases h with
  | non => exact .inl .non
  | bl b => exact .inl (.bl b)
  | int i => exact .inl (.int i)
  | str x => exact .inl (.str x)
  | lst h => exact .inl (.lst h)
  | tup h => exact .inl (.tup h)
  | dic h => exact .inl (.dic h)
  | tf h => exact .inr ⟨rfl, _, _, rfl, h⟩
theorem TyF.x {K : PySem.W.Frag} {H : Hp} {v : V} {n : String} (h : TyF H v n) : TyX K H v (.type n) := by
  rcases h.split with h | ⟨rfl, a, xs, rfl, o, ht, _⟩
  · exact h.x
  · exact .fTuple ht
theorem TyF.isi {K : PySem.W.Frag} {H : Hp} {v : V} {n : String} (h : TyF H v n) {c : String} (hc : c = "int" ∨ c = "bool" ∨ c = "tuple" ∨ c = "list") : PySem.W.kitOne K (.type n) (.type c) = some (isiB n c) := by
  rcases hc with rfl | rfl | rfl | rfl <;> cases h <;> exact kit_ty (by decide +kernel)
theorem TyF.ke {H H' : Hp} {v : V} {n : String} (h : TyF H v n) (k : Ke H H') : TyF H' v n := by
  rcases h.split with h | ⟨rfl, a, xs, rfl, ht⟩
  · exact (h.ke k).f
  · exact .tf (ht.ke k)
theorem TyF.put {H : Hp} {p : Addr} {xs ys : List V} {v : V} {n : String} (h : TyF H v n) (k : H p = some (.lst xs)) : TyF (upd H p (.lst ys)) v n := by
  rcases h.split with h | ⟨rfl, a, zs, rfl, ht⟩
  · exact (h.put k).f
  · exact .tf (ht.put k)
theorem TyF.dk {H H' : Hp} {p : Addr} {v : V} {n : String} (h : TyF H v n) (k : Dk p H H') (d : Deck H p) : TyF H' v n := by
  rcases h.split with h | ⟨rfl, a, zs, rfl, ht⟩
  · exact (h.dk k d).f
  · exact .tf (ht.dk k d)
inductive ThG (K : PySem.W.Frag) (H : Hp) : V → Option (List V) → Prop where
  | no {v : V} {nm : String} (h : TyF H v nm) (hn : nm ≠ "tuple") : ThG K H v none
  | yes {a : Addr} {xs : List V} (h : SqT K H a xs) (ht : TyX K H (.ref a) (.type "tuple")) (hx : ∀ x ∈ xs, ∃ n, TyF H x n) : ThG K H (.ref a) (some xs)
theorem Tpl.g {K : PySem.W.Frag} {H : Hp} {v : V} {o : Option (List V)} (h : Tpl H v o) : ThG K H v o := by
  cases h with
  | no h hn => exact .no h.f hn
  | yes h hx => exact .yes (sqT_of h) (TyF.x (.tup h)) fun x hm => (hx x hm).imp fun _ z => z.f
end FF
namespace FF
open PySem PySem.Spec PyProof.Rows L2
variable [LT]
/-! ### hung from a told root -/
end FF
namespace FF
open PySem PySem.Spec PyProof.Rows L2
variable [LT]
/-! ### points that one comes to along ways, and ties turned -/
section
variable {X : Cx} {K : PySem.W.Frag}
def rIdxT (K : PySem.W.Frag) : V → List V → Hp → VK → Prop := fun x xs H Q => ∃ (p : Addr) (ns : List Int) (k : Int) (j : Nat), x = .ref p ∧ xs = [.int k] ∧ SqT K H p (ns.map V.int) ∧ ns[j]? = some k ∧ (∀ m, m < j → ns[m]? ≠ some k) ∧ Q (.int (j : Nat)) H
theorem mt_tindex (h : X.K = K := by rfl) : MtR X "tuple.index" (rIdxT K) := by
  subst h
  intro pins s σ H x xs v us Q I rx rxs h
  obtain ⟨p, ns, k, j, rfl, rfl, hs, hj, hno, q⟩ := h
  cases rx
  obtain ⟨u, rfl, ru⟩ := rxs.one
  obtain ⟨t, rfl⟩ := ru
  obtain ⟨its, rv, ⟨⟨cls, dd, data, sl⟩, ho, hc, n, hd⟩, hlen⟩ := I.tuple hs
  simp only at hc hd
  subst hc hd
  have hi := ints_of_vals rv
  have hl : its.length = ns.length := by rw [← rv.length, List.length_map]
  have jl := (List.getElem?_eq_some_iff.mp hj).1
  have at' : ∀ (m : Nat) (hm : m < its.toArray.size), ∃ y t', ns[m]? = some y ∧ its.toArray[m] = Value.int y t' := fun m hm => by
    have hm' : m < ns.length := by rw [← hl]; simpa using hm
    obtain ⟨w, hw, t', hw'⟩ := rv.get (i := m) (x := .int ns[m]) (by simp [hm'])
    refine ⟨ns[m], t', List.getElem?_eq_getElem hm', ?_⟩
    have e := (List.getElem?_eq_some_iff.mp hw).2
    rw [← hw', ← e]
    simp
  refine call_meets PySem.F.slot_tuple_index ⟨_, ho, rfl⟩ PySem.F.entry_tuple_index (PySem.F.args_tuple_index_2 _ _)
    (TI.tuple_indexAt p its.toArray n dd sl (.int k t) (eqk k) j (by simp; omega) ?_ ?_) ⟨ho, fun y hy => (eqk_gives hi y (by simpa using hy)).at _ _, ⟨.int (j : Nat), H, I.tok _, ⟨_, rfl⟩, q⟩⟩
  · obtain ⟨y, t', h1, h2⟩ := at' j (by simp; omega)
    rw [hj] at h1
    cases h1
    rw [h2]
    show eqk k (Value.int k t') = true
    unfold eqk
    simp
  · intro m hm hmj
    obtain ⟨y, t', h1, h2⟩ := at' m hm
    rw [h2]
    have : ¬ y = k := fun e => hno m hmj (e ▸ h1)
    show eqk k (Value.int y t') = false
    unfold eqk
    simpa using this
end
/-! ### turned -/
theorem count_set : ∀ {ws : List Int} {i : Nat} {y p q : Int}, ws[i]? = some y → (ws.set i p).count q + (if y = q then 1 else 0) = ws.count q + (if p = q then 1 else 0)
  | x :: ws, 0, y, p, q, h => by
    cases h
    rw [List.set_cons_zero, List.count_cons, List.count_cons]
    simp only [beq_iff_eq]
    omega
  | x :: ws, i + 1, y, p, q, h => by
    have ih := count_set (ws := ws) (i := i) (y := y) (p := p) (q := q) h
    rw [List.set_cons_succ, List.count_cons, List.count_cons]
    omega
/-! ### as few outs as can be -/
theorem TF.ty {K : PySem.W.Frag} {H : Hp} {a : Addr} {xs : List V} (h : TF H a xs) : TyX K H (.ref a) (.type "tuple") := by
  obtain ⟨o, e, _⟩ := h
  exact .fTuple e
end FF
namespace FF
open PySem PySem.Spec PyProof.Rows L2
variable [LT]
/-! ### layers split into forests -/
section
variable {n d : Int} {ts : List (Int × Int)} {ls : List Int}
end
section
variable {n : Int} {ts : List (Int × Int)} {ls : List Int}
end
end FF
namespace FF
open PySem PySem.Spec PyProof.Rows L2
variable [LT]
/-! ### two points tied many times -/
theorem upTo_get' {m j : Nat} (h : j < m) : (upTo (m : Int))[j]? = some (j : Int) := by
  have := upTo_get (n := (m : Int)) (x := (j : Int)) (by omega) (by omega)
  rw [Int.toNat_natCast] at this
  exact this
end FF
namespace FF
open PySem PySem.Spec PyProof.Rows L2
variable [LT]
/-! ### a list cut where a truth tells the place -/
section
variable {prog : Program} {w : World} {A : Around} {E : Value → Shared → Prop} {s : Shared}
end
section
variable {prog : Program} {w : World} {A : Around} {E : Value → Shared → Prop} {s : Shared}
end
section
variable {X : Cx} {K : PySem.W.Frag} {e lo : Expr} {te tl : TE} {pos p2 : Pos}
end
end FF
namespace FF
open PySem PySem.Spec PyProof.Rows L2
variable [LT]
/-! ### a ring's layer split -/
end FF
namespace FF
open PySem PySem.Spec PyProof.Rows L2
variable [LT]
/-! ### the set of a tuple of ties -/
section
variable {P : Program} {w : World} {A : Around} {E : Value → Shared → Prop} {s : Shared}
end
section
variable {X : Cx}
end
end FF
namespace FF
open PySem PySem.Spec PyProof.Rows L2
variable [LT]
/-! ### the least outs beside the least forests -/
end FF
namespace FF
open PySem PySem.Spec PyProof.Rows L2
variable [LT]
/-! ### rooms: pairs of points that a lot holds, and rows for the others -/
end FF
namespace FF
open PySem PySem.Spec PyProof.Rows L2
variable [LT]
/-! ### what a lot that holds a pair, or a row for it, tells of the web with that tie -/
theorem Laid.some_ {ts : List (Int × Int)} {k : Int} {ws : List V} (h : Laid ts k ws) : ∀ x ∈ ws, x ≠ V.non := fun x hx => by
  obtain ⟨j, e, _⟩ := h.num x hx
  rw [e]
  exact fun z => nomatch z
end FF
namespace FF
open PySem PySem.Spec PyProof.Rows L2
variable [LT]
/-! ### what rooms_of tells -/
end FF
namespace FF
open PySem PySem.Spec PyProof.Rows L2
variable [LT]
/-! ### rows picked out of what rooms_of tells -/
end FF
namespace FF
open PySem PySem.Spec PyProof.Rows L2
variable [LT]
/-! ### (x,) * k known to the object; t.count(None) -/
section
variable {X : Cx}
end
end FF
namespace FF
open PySem PySem.Spec PyProof.Rows L2
variable [LT]
/-! ### lots within lots -/
end FF
namespace FF
open PySem PySem.Spec PyProof.Rows L2
variable [LT]
/-! ### the sorted list of all pairs -/
end FF
namespace FF
open PySem PySem.Spec PyProof.Rows L2
variable [LT]
/-! ### sorted of a list of tuples of ints, any length -/
/-! ### the outs of all ways -/
end FF
namespace FF
open PySem PySem.Spec PyProof.Rows L2
variable [LT]
/-! ### methods of the text's own classes -/
section
variable {P : Program} {w : World} {K : PySem.W.Frag} {mg : Str → Option Value} {base : Heap} {m qual : Str} {st : Stmt} {f C : Addr} {fd : FuncData} {N ps : List Str} {k : Nat} {sp : Sp}
end
/-! a method called within a try -/
section
variable {X : Cx} {CX : CXT} {k : Nat} {f C : Addr} {fd : FuncData} {ps : List Str} {sp : Sp} {E : L2.St → XK} {m : Str} {pos apos : Pos} {e o : Expr} {es : List Expr} {ta : TE} {t : TA}
end
end FF
namespace FF
open PySem PySem.Spec PyProof.Rows L2
variable [LT]
/-! ### a desk's fields -/
section
variable {a b c d e v : V}
end
theorem Kx.web {S : Addr → Prop} {H H' : Hp} {v : V} {n : Int} {ts : List (Int × Int)} (k : Kx S H H') (hs : ∀ b xs, H b = some (.tup xs) → ¬ S b) (W : Web H v n ts) : Web H' v n ts := by
  obtain ⟨tw, wu, rs, rfl, h1, h2, h3⟩ := W
  exact ⟨tw, wu, rs, rfl, k.tup h1 (hs _ _ h1), k.tup h2 (hs _ _ h2), h3.mono fun q xs z => k.tup z (hs _ _ z)⟩
/-! ### what a desk is told, and what it tells -/
/-! ### one forest fewer -/
end FF
namespace FF
open PySem PySem.Spec PyProof.Rows L2
variable [LT]
/-! ### walks within an except suite -/
section
open PySem PySem.Calls HotX
variable {pr : Program} {wo : World} {A : Around} {E : Value → Shared → Prop} {s : Shared}
end
section
open PySem PySem.Calls HotX L2H
end
section
open PySem PySem.Calls HotX L2H
end
section
open HotX L2H
end
section
open HotX L2H
end
end FF
namespace FF
open PySem PySem.Spec PyProof.Rows L2
variable [LT]
/-! ### min of a tuple of ints -/
section
variable {X : Cx} {K : PySem.W.Frag}
theorem fold_min : ∀ (ns : List Int) (n : Int), (ns.foldl min n ∈ n :: ns) ∧ ∀ y ∈ n :: ns, ns.foldl min n ≤ y
  | [], n => ⟨List.mem_cons_self, fun y hy => by rw [List.mem_singleton.mp hy]; exact Int.le_refl _⟩
  | a :: r, n => by
    obtain ⟨h1, h2⟩ := fold_min r (min n a)
    have e : (a :: r).foldl min n = r.foldl min (min n a) := rfl
    rw [e]
    refine ⟨?_, fun y hy => ?_⟩
    · rcases List.mem_cons.mp h1 with z | z
      · rw [z]
        rcases Int.le_total n a with c | c
        · rw [Int.min_eq_left c]; exact List.mem_cons_self
        · rw [Int.min_eq_right c]; exact List.mem_cons_of_mem _ List.mem_cons_self
      · exact List.mem_cons_of_mem _ (List.mem_cons_of_mem _ z)
    · have hm := h2 (min n a) List.mem_cons_self
      rcases List.mem_cons.mp hy with z | hy
      · omega
      · rcases List.mem_cons.mp hy with z | hy
        · omega
        · exact h2 y (List.mem_cons_of_mem _ hy)
def rMinT (K : PySem.W.Frag) : List V → Hp → VK → Prop := fun vs H Q => ∃ (a : Addr) (ns : List Int), vs = [V.ref a] ∧ SqT K H a (ns.map V.int) ∧ 0 < ns.length ∧ ∀ m, m ∈ ns → (∀ y, y ∈ ns → m ≤ y) → Q (.int m) H
theorem minT (hc : X.calm = true) (hu : X.A.units + 64 < cLine) (h : X.K = K := by rfl) : CallR X (.builtin "min") (rMinT K) := by
  subst h
  intro pins s σ H vs us Q I r hq
  obtain ⟨a, ns, rfl, hs, hne, q⟩ := hq
  obtain ⟨its, rv, hl, _⟩ := I.tuple hs
  rw [Vals.ref1 r]
  cases ns with
  | nil => exact absurd hne (Nat.lt_irrefl 0)
  | cons n ns =>
    obtain ⟨as, hr⟩ := Dp.readsAll I _ _ its (dp_ints (n :: ns)) rv
    have hd : PyData.depthAll ((n :: ns).map PyData.int) = 0 := PySem.W.ke_depthAll (n :: ns)
    refine PySem.W.min_tuple_data (x := .int n) (xs := ns.map PyData.int) (I.ok.hd hc) (show s.heap.IsTuple a its.toArray from hl) (by simpa using hr) ⟨fun x hx y hy => ?_, fun x hx => ?_⟩ (by show X.A.units + 1 + PyData.depthAll ((n :: ns).map PyData.int) < cLine; rw [hd]; omega) fun i v h' tk bs hi rd hk => ?_
    · obtain ⟨i, _, rfl⟩ := List.mem_map.mp (show x ∈ (n :: ns).map PyData.int from hx)
      obtain ⟨j, _, rfl⟩ := List.mem_map.mp (show y ∈ (n :: ns).map PyData.int from hy)
      rfl
    · obtain ⟨i, _, rfl⟩ := List.mem_map.mp (show x ∈ (n :: ns).map PyData.int from hx)
      intro z
      cases z
    · rw [PySem.W.minD_ints] at rd
      cases rd with
      | int t =>
        exact ⟨.int _, H, I.kept hk, ⟨_, rfl⟩, q _ (fold_min ns n).1 (fold_min ns n).2⟩
end
end FF
namespace FF
open PySem PySem.Spec PyProof.Rows L2
variable [LT]
/-! ### desks: what stays, and what is told as data -/
section
variable {K : PySem.W.Frag} {H H' : Hp} {x : Addr} {n : Int} {ts : List (Int × Int)} {k : Int} {ws : List V} {rv : V} {m : Int}
end
section
variable {K : PySem.W.Frag} {H H' : Hp}
mutual
theorem Dp.mono (hl : ∀ a xs, SqL K H a xs → SqL K H' a xs) (ht : ∀ a xs, SqT K H a xs → SqT K H' a xs) : ∀ (d : PyData) (v : V), Dp K H v d → Dp K H' v d
  | .none, _, h => by
    cases h
    exact .non
  | .bool b, _, h => by
    cases h
    exact .bl b
  | .int i, _, h => by
    cases h
    exact .int i
  | .str x, _, h => by
    cases h
    exact .str x
  | .list ds, _, h => by
    cases h with
    | lst hs ha => exact .lst (hl _ _ hs) (DpAll.mono hl ht ds _ ha)
  | .tuple ds, _, h => by
    cases h with
    | tup hs ha => exact .tup (ht _ _ hs) (DpAll.mono hl ht ds _ ha)
  | .dict _, _, h => by cases h
theorem DpAll.mono (hl : ∀ a xs, SqL K H a xs → SqL K H' a xs) (ht : ∀ a xs, SqT K H a xs → SqT K H' a xs) : ∀ (ds : List PyData) (vs : List V), DpAll K H vs ds → DpAll K H' vs ds
  | [], _, h => by
    cases h
    exact .nil
  | d :: ds, _, h => by
    cases h with
    | cons h1 h2 => exact .cons (Dp.mono hl ht d _ h1) (DpAll.mono hl ht ds _ h2)
end
end
end FF
namespace FF
open PySem PySem.Spec PyProof.Rows L2
variable [LT]
/-! ### what a desk is due to tell, by the fewest forests -/
end FF
namespace FF
open PySem PySem.Spec PyProof.Rows L2
variable [LT]
/-! ### desks: webs, and what stands of a desk -/
end FF
namespace FF
open PySem PySem.Spec PyProof.Rows L2
variable [LT]
/-! ### is not of any thing and a bool -/
end FF
namespace FF
open PySem PySem.Spec PyProof.Rows L2
variable [LT]
/-! ### a desk's deeds, each with one outcome -/
end FF
namespace FF
open PySem PySem.Spec PyProof.Rows L2
variable [LT]
/-! ### a, b, .. = a list of that length -/
end FF
namespace FF
open PySem PySem.Spec PyProof.Rows L2
variable [LT]
/-! ### what is told stays -/
structure Kp (H H' : Hp) : Prop where
  tup : ∀ q xs, H q = some (.tup xs) → H' q = some (.tup xs)
  str : ∀ l s r, H l = some (.lst (.str s :: r)) → H' l = some (.lst (.str s :: r))
theorem Kp.trans {H H' H2 : Hp} (a : Kp H H') (b : Kp H' H2) : Kp H H2 := ⟨fun q xs z => b.tup q xs (a.tup q xs z), fun l s r z => b.str l s r (a.str l s r z)⟩
theorem Ke.kp {H H' : Hp} (k : Ke H H') : Kp H H' := ⟨fun _ _ z => Ke.tup k z, fun _ _ _ z => Ke.lst k z⟩
theorem Kp.put {H : Hp} {p : Addr} {hs hs' : List V} (h : H p = some (.lst hs)) (hn : ∀ s r, hs ≠ .str s :: r) : Kp H (upd H p (.lst hs')) := ⟨fun q xs z => by
  rw [upd_ne (ne_of z h fun y => nomatch y)]
  exact z, fun l s r z => by
  rw [upd_ne fun e => ?_]
  · exact z
  · rw [e, h] at z
    injection z with z
    injection z with z
    exact hn s r z⟩
theorem Dk.kp {p : Addr} {H H' : Hp} (k : Dk p H H') (d : Deck H p) : Kp H H' := ⟨fun q xs z => k.tup d z, fun l s r z => k.lst z fun e => by
  obtain ⟨ds, h, _⟩ := d
  rw [e, h] at z
  injection z with z
  injection z with z
  cases ds with
  | nil => cases z
  | cons a b => cases z⟩
end FF
namespace FF
open PySem PySem.Spec PyProof.Rows L2
variable [LT]
/-! ### sorted(tuple of pairs) -/
section
variable {prog : Program} {w : World} {A : Around} {E : Value → Shared → Prop} {s : Shared}
end
/-! ### collections in which no lot is full -/
section
variable {K : PySem.W.Frag} {H H' : Hp} {x : Addr} {n : Int} {ts : List (Int × Int)} {k : Int} {ws : List V} {rv : V} {m : Int} {l : Addr}
end
end FF
namespace FF
open PySem PySem.Spec PyProof.Rows L2
variable [LT]
/-! ### the search from several ties at once -/
section
variable {ts : List (Int × Int)} {ws : List V} {k : Int} {Zs : List Int} {fl : List (Int × Option (Int × Int))} {lv : Nat → Nat} {a : Nat}
end
section
variable {H : Hp} {n : Int} {ts : List (Int × Int)} {ws : List V} {k : Int} {Zs : List Int} {d nb hg wt : Addr} {bl : List (Int × Addr)} {G G' : Hp} {pl pl' : List (Int × V)} {fl fl' : List (Int × Option (Int × Int))} {lv lv' : Nat → Nat} {a a' : Nat} {gl gl' : List (Int × Addr)}
end
end FF
namespace FF
open PySem PySem.Spec PyProof.Rows L2
variable [LT]
/-! ### what lies within a tight lot stays there -/
section
variable {ts : List (Int × Int)} {n k : Int} {ws : List V} {ls : List Int}
abbrev inL (ts : List (Int × Int)) (ls : List Int) (m : Int) : Prop := (tk ts m).1 ∈ ls ∧ (tk ts m).2 ∈ ls
theorem TightL.joined (h : TightL ts n k ws ls) (hL : LayK ts k ws) {f : Int} (f0 : 0 ≤ f) (f1 : f < k) {a b : Int} (ha : a ∈ ls) (hb : b ∈ ls) : jn ts ((numsFrom f 0 ws).filter fun m => decide ((tk ts m).1 ∈ ls) && decide ((tk ts m).2 ∈ ls)) a b := by
  have e : pick ts ((numsFrom f 0 ws).filter fun m => decide ((tk ts m).1 ∈ ls) && decide ((tk ts m).2 ∈ ls)) = (layerOf ts ws f).filter fun t => decide (t.1 ∈ ls) && decide (t.2 ∈ ls) := by
    rw [← show pick ts (numsFrom f 0 ws) = layerOf ts ws f from pick_nums f [] ts ws hL.len.symm]
    unfold pick
    rw [List.filter_map]
    rfl
  show foldR (fun x => x) (pick ts _) a = foldR (fun x => x) (pick ts _) b
  rw [e]
  exact tight_joined (hL.tree f) h.lot (h.tight f f0 f1) ha hb
theorem TightL.ring (h : TightL ts n k ws ls) (hL : LayK ts k ws) {f : Int} (f0 : 0 ≤ f) (f1 : f < k) {s x : Int} (hs : inL ts ls s) (ho : OnR ts (numsFrom f 0 ws) s x) : inL ts ls x := by
  by_cases c : inL ts ls x
  · exact c
  · refine (ho.2 (jn_sub (fun m hm => ?_) (h.joined hL f0 f1 hs.1 hs.2))).elim
    obtain ⟨m1, m2⟩ := List.mem_filter.mp hm
    rw [Bool.and_eq_true, decide_eq_true_eq, decide_eq_true_eq] at m2
    unfold but
    refine List.mem_filter.mpr ⟨m1, ?_⟩
    rw [decide_eq_false (p := m = x) fun z => c (by rw [← z]; exact m2)]
    rfl
theorem TightL.rch (h : TightL ts n k ws ls) (hL : LayK ts k ws) {t x : Int} (ht : inL ts ls t) (hr : Rch ts ws k t x) : inL ts ls x := by
  induction hr with
  | base => exact ht
  | step _ f0 f1 _ _ ho ih => exact h.ring hL f0 f1 ih ho
theorem TightL.no_row (h : TightL ts n k ws ls) (hL : LayK ts k ws) : ∀ {es : List (Int × Int)} {e : Int × Int} {r : List (Int × Int)}, es = e :: r → PRow ts ws k es → inL ts ls e.1 → False
  | [], _, _, h0, _, _ => nomatch h0
  | [e], _, _, h0, hp, hi => by
    cases h0
    obtain ⟨_, f0, f1⟩ := hp.bd e (List.mem_singleton.mpr rfl)
    have hj : joinB ts ws e = true := (jn_join hL.len).mpr (jn_sub (fun m hm => (List.mem_filter.mp hm).1) (h.joined hL f0 f1 hi.1 hi.2))
    have hq : (!joinB ts ws e) = true := hp.push
    rw [hj] at hq
    cases hq
  | e :: e' :: r, _, _, h0, hp, hi => by
    cases h0
    obtain ⟨_, f0, f1⟩ := hp.bd e List.mem_cons_self
    have ho := (pushB_parts.mp hp.push).2.1
    exact h.no_row hL rfl hp.tail (h.ring hL f0 f1 hi ho)
theorem TightL.free (h : TightL ts n k ws ls) (hL : LayK ts k ws) {t : Int} (ht : inL ts ls t) : ¬ ∃ d r, PRow ts ws k (d :: r) ∧ d.1 = t := fun ⟨d, r, hp, e⟩ => h.no_row hL rfl hp (e ▸ ht)
end
/-! ### what is reached from a tie that no row lays -/
theorem Closed.tight {ts : List (Int × Int)} {n k : Int} {ws : List V} {R ls : List Int} (h : Closed ts ws k R) (hL : LayK ts k ws) (hE : EndsOf ts R ls) (hl : Lot n ls) (hne : R ≠ []) : TightL ts n k ws ls := ⟨hl, fun f f0 f1 => h.tree hL.len hE hne hL.tree f0 f1⟩
/-! ### the noted lots are the least -/
theorem filter_imp {α : Type} {p q : α → Bool} (h : ∀ x, p x = true → q x = true) (l : List α) : l.filter p = (l.filter q).filter p := by
  rw [List.filter_filter]
  refine List.filter_congr fun x _ => ?_
  cases e : p x with
  | false => rfl
  | true => rw [h x e]; rfl
/-- ties within a tight lot are the same when more is laid -/
theorem TightL.back {ts : List (Int × Int)} {n k : Int} {ws ws' : List V} {ls ls' : List Int} (h : TightL ts n k ws ls) (hk : 0 ≤ k) (hL : LayK ts k ws) (hL' : LayK ts k ws') (hs : ∀ i : Nat, ws'[i]? = some .non → ws[i]? = some .non) (h' : TightL ts n k ws' ls') (sub : ∀ x ∈ ls', x ∈ ls) : TightL ts n k ws ls' := by
  refine ⟨h'.lot, fun f f0 f1 => ?_⟩
  have hst := h.stay hk hL hL' hs
  have e1 := (tight_iff hL hk h.lot.nd h.lot.ne).mpr fun f f0 f1 => by have := h.tight f f0 f1; omega
  have e2 := (tight_iff hL' hk h.lot.nd h.lot.ne).mpr fun f f0 f1 => by have := hst.tight f f0 f1; omega
  have sl := (laidT_sub (ts := ts) (hL'.len.trans hL.len.symm) hs).filter fun t : Int × Int => decide (t.1 ∈ ls) && decide (t.2 ∈ ls)
  have ee : (laidT ts ws).filter (fun t : Int × Int => decide (t.1 ∈ ls) && decide (t.2 ∈ ls)) = (laidT ts ws').filter fun t : Int × Int => decide (t.1 ∈ ls) && decide (t.2 ∈ ls) := sl.eq_of_length (by
    unfold inside at e1 e2
    omega)
  have hp : ∀ t : Int × Int, (decide (t.1 ∈ ls') && decide (t.2 ∈ ls')) = true → (decide (t.1 ∈ ls) && decide (t.2 ∈ ls)) = true := fun t z => by
    rw [Bool.and_eq_true, decide_eq_true_eq, decide_eq_true_eq] at z ⊢
    exact ⟨sub _ z.1, sub _ z.2⟩
  have e3 : inside ls' (laidT ts ws) = inside ls' (laidT ts ws') := by
    unfold inside
    rw [filter_imp hp (laidT ts ws), filter_imp hp (laidT ts ws'), ee]
  have e4 := (tight_iff hL' hk h'.lot.nd h'.lot.ne).mpr fun f f0 f1 => by have := h'.tight f f0 f1; omega
  rw [← e3] at e4
  have := (tight_iff hL hk h'.lot.nd h'.lot.ne).mp e4 f f0 f1
  omega
end FF
namespace FF
open PySem PySem.Spec PyProof.Rows L2
variable [LT]
/-! ### which ties some fullest laying leaves out -/
section
variable {ts : List (Int × Int)} {n k : Int} {ws : List V} {Zs : List Int} {fl : List (Int × Option (Int × Int))} {lv : Nat → Nat} {a : Nat}
/-! ### the row that leaves a tie out -/
end
end FF
namespace FF
open PySem PySem.Spec PyProof.Rows L2
variable [LT]
/-! ### what needed_ties tells -/
theorem Pth.key {fl : FlT} {x : Int} {es : List (Int × Int)} (h : Pth fl x es) : x ∈ fl.map Prod.fst := by
  cases h with
  | root h => exact List.mem_map.mpr ⟨_, h, rfl⟩
  | step h _ => exact List.mem_map.mpr ⟨_, h, rfl⟩
end FF
namespace FF
open PySem PySem.Spec PyProof.Rows L2
variable [LT]
/-! ### all layings of a small web -/
/-- a laying of one tie more is a laying and an entry -/
theorem LayK.init {ts : List (Int × Int)} {k : Int} {ws : List V} {i : Nat} (hi : i < ts.length) (h : LayK (ts.take (i + 1)) k ws) : ∃ us x, ws = us ++ [x] ∧ LayK (ts.take i) k us ∧ (x = .non ∨ ∃ f, x = V.int f ∧ 0 ≤ f ∧ f < k) := by
  have hl := h.len
  rw [List.length_take] at hl
  have hne : ws ≠ [] := fun z => by rw [z] at hl; have : 0 = min (i + 1) ts.length := hl; omega
  obtain ⟨us, x, rfl⟩ : ∃ us x, ws = us ++ [x] := ⟨_, _, (List.dropLast_concat_getLast hne).symm⟩
  rw [List.length_append, List.length_singleton] at hl
  refine ⟨us, x, rfl, ?_, h.each x (List.mem_append_right _ List.mem_cons_self)⟩
  have := h.erase (g := i) (by rw [List.length_take]; omega)
  rw [show (us ++ [x]).eraseIdx i = us by rw [List.eraseIdx_append_of_length_le (by omega), show i - us.length = 0 by omega]; exact List.append_nil _, show (ts.take (i + 1)).eraseIdx i = ts.take i by rw [List.take_add_one, List.eraseIdx_append_of_length_le (by rw [List.length_take]; omega), List.length_take, show i - min i ts.length = 0 by omega, List.getElem?_eq_getElem hi]; exact List.append_nil _] at this
  exact this
end FF
namespace FF
open PySem PySem.Spec PyProof.Rows L2
variable [LT]
/-! ### what needed_ties tells, as data -/
end FF
namespace FF
open PySem PySem.Spec PyProof.Rows L2
variable [LT]
/-! ### a search that notes whence each came -/
section
variable {H H' : Hp} {kl : List (Int × V)} {pl : List (Int × Option (Int × Int))}
end
section
variable {n : Int} {ts : List (Int × Int)} {ms : List Int} {a : Int} {pl : List (Int × Option (Int × Int))}
end
end FF
namespace FF
open PySem PySem.Spec PyProof.Rows L2
variable [LT]
/-! ### tuple(reversed(xs)) -/
section
variable {prog : Program} {w : World} {A : Around} {E : Value → Shared → Prop} {s : Shared}
end
section
variable {X : Cx}
end
end FF
namespace FF
open PySem PySem.Spec PyProof.Rows L2
variable [LT]
/-! ### rows that lay a tie, as the program looks at them -/
end FF
namespace FF
open PySem PySem.Spec PyProof.Rows L2
variable [LT]
/-! ### rooms of all tight lots -/
section
variable {ts : List (Int × Int)} {n k : Int} {ws : List V} {ps : List (Int × Int)} {lots lots' : List (List Int)} {rows rows' : List ((Int × Int) × List (Int × Int))}
end
/-! ### rooms as data -/
end FF
namespace FF
open PySem PySem.Spec PyProof.Rows L2
variable [LT]
/-! ### layings that are known to the object -/
theorem TF.kx {S : Addr → Prop} {H H' : Hp} {a : Addr} {xs : List V} (h : TF H a xs) (k : Kx S H H') (n : ¬ S a) : TF H' a xs := by
  obtain ⟨o, e, d⟩ := h
  exact ⟨o, k.at_ a _ e (fun _ z => nomatch z) n, d⟩
theorem TF.ne {H : Hp} {a b : Addr} {xs : List V} {u : HO} (h : TF H a xs) (e : H b = some u) (n : ∀ o ys, u ≠ .frz o (.tup ys)) : a ≠ b := fun z => by
  obtain ⟨o, e1, _⟩ := h
  rw [z, e] at e1
  exact n _ _ (Option.some.inj e1)
end FF
namespace FF
open PySem PySem.Spec PyProof.Rows L2
variable [LT]
/-! ### how many ties one forest more lays -/
end FF
namespace FF
open PySem PySem.Spec PyProof.Rows L2
variable [LT]
/-! ### things looked into to any depth -/
/-! ### rooms of any thing -/
end FF
namespace FF
open PySem PySem.Spec PyProof.Rows L2
variable [LT]
/-! ### papers of rooms, of any thing -/
end FF
namespace FF
open PySem PySem.Spec PyProof.Rows L2
variable [LT]
/-! ### rows of things looked into five deep -/
end FF
namespace FF
open PySem PySem.Spec PyProof.Rows L2
variable [LT]
/-! ### the answer about a paper of rooms stays -/
end FF
namespace FF
open PySem PySem.Spec PyProof.Rows L2
variable [LT]
/-! ### tables of defs with a lambda -/
def LTabs (lt : List (Addr × Str)) (H : Hp) : Prop := ∀ p ∈ lt, LamX.TabS H p.1 p.2
/-- what is told of the list of such tables -/
structure LtOk (lt : List (Addr × Str)) : Prop where
  lam : ∀ p ∈ lt, LT.lam p.1 = true
  one : ∀ p ∈ lt, ∀ q ∈ lt, p.1 = q.1 → p.2 = q.2
theorem LTabs.kx {lt : List (Addr × Str)} (ok : LtOk lt) {S : Addr → Prop} {H H' : Hp} (h : LTabs lt H) (k : Kx S H H') (hS : ∀ b, S b → (∀ ps, H b ≠ some (.tbl ps)) ∧ ∀ c q, H b ≠ some (LamX.CodeO c q)) : LTabs lt H' := fun p hp => by
  obtain ⟨ps, e1, e2, e3⟩ := h p hp
  refine ⟨ps, k.lam _ ps (ok.lam p hp) (fun z => (hS _ z).1 ps e1) e1, e2, fun pos cv hc => ?_⟩
  obtain ⟨c, g1, g2⟩ := e3 pos cv hc
  exact ⟨c, g1, k.at_ c _ g2 LamX.codeO_ne fun z => (hS _ z).2 c _ g2⟩
theorem LTabs.ke {lt : List (Addr × Str)} (ok : LtOk lt) {H H' : Hp} (h : LTabs lt H) (k : Ke H H') : LTabs lt H' := h.kx ok k fun _ z => z.elim
theorem LTabs.at_lst {lt : List (Addr × Str)} (ok : LtOk lt) {p : Addr} {xs : List V} {H H' : Hp} (h : LTabs lt H) (k : Kx (fun b => b = p) H H') (hp : H p = some (.lst xs)) : LTabs lt H' := h.kx ok k fun b z => by
  rw [z]
  exact ⟨fun ps e => (by rw [hp] at e; cases e), fun c q e => (by rw [hp] at e; unfold LamX.CodeO at e; cases e)⟩
theorem LTabs.dk {lt : List (Addr × Str)} (ok : LtOk lt) {p : Addr} {H H' : Hp} (h : LTabs lt H) (k : Dk p H H') (d : Deck H p) : LTabs lt H' := by
  obtain ⟨ds, e, _⟩ := d
  exact h.at_lst ok k.k e
/-- what the making of a lambda, or a call of a def that makes one, leaves as it was: all but tables of such -/
abbrev Kl (lt : List (Addr × Str)) := Kx fun b => ∃ p ∈ lt, p.1 = b
theorem Kl.not {lt : List (Addr × Str)} {H : Hp} (h : LTabs lt H) {b : Addr} {o : HO} (e : H b = some o) (n : ∀ ps, o ≠ .tbl ps) : ¬ ∃ p ∈ lt, p.1 = b := fun ⟨p, hp, z⟩ => by
  obtain ⟨ps, g, _⟩ := h p hp
  rw [z, e] at g
  exact n ps (Option.some.inj g)
theorem Kl.at' {lt : List (Addr × Str)} {H H' : Hp} (k : Kl lt H H') (h : LTabs lt H) {b : Addr} {o : HO} (e : H b = some o) (n : ∀ ps, o ≠ .tbl ps) : H' b = some o := k.at_ b o e n (Kl.not h e n)
theorem Kl.lst' {lt : List (Addr × Str)} {H H' : Hp} (k : Kl lt H H') (h : LTabs lt H) {q : Addr} {xs : List V} (e : H q = some (.lst xs)) : H' q = some (.lst xs) := k.at' h e fun _ z => nomatch z
theorem Kl.deck {lt : List (Addr × Str)} {H H' : Hp} {p : Addr} (k : Kl lt H H') (h : LTabs lt H) (d : Deck H p) : Deck H' p := by
  obtain ⟨ds, e, g⟩ := d
  exact ⟨ds, k.lst' h e, g⟩
theorem Ke.kl {lt : List (Addr × Str)} {H H' : Hp} (k : Ke H H') : Kl lt H H' := k.to
section
variable {X : Cx} {pins : List (Addr × Obj)} {σ : L2.St} {H : Hp} {s : Shared}
end
end FF
namespace FF
open PySem PySem.Spec PyProof.Rows L2
variable [LT]
/-! ### a lambda of one parameter: its names, its call -/
section
variable {X : Cx} {pins : List (Addr × Obj)} {σ : L2.St} {H : Hp} {s : Shared}
end
end FF
namespace FF
open PySem PySem.Spec PyProof.Rows L2
variable [LT]
/-! ### sorted(.., key=a lambda) -/
section
variable {prog : Program} {w : World} {A : Around} {E : Value → Shared → Prop}
end
section
variable {X : Cx} {pins : List (Addr × Obj)} {σ : L2.St} {H : Hp} {s : Shared}
end
end FF
namespace FF
open PySem PySem.Spec PyProof.Rows L2
variable [LT]
/-! ### sorted(.., key=a lambda): the rules -/
section
variable {X : Cx} {pins : List (Addr × Obj)} {σ : L2.St} {H : Hp} {s : Shared}
end
end FF
namespace FF
open PySem PySem.Spec PyProof.Rows L2
variable [LT]
/-! ### sorted(list, key=a lambda), sorted(range(..), key=a lambda) -/
section
variable {X : Cx} {lt : List (Addr × Str)} {c P : Addr} {N : List Str} {src : List Nat} {p : Str} {scope : Scope} {params : Arguments} {body e : Expr} {k : Nat} {te tb : TE} {p1 lpos kpos pos : Pos}
end
end FF
namespace FF
open PySem PySem.Spec PyProof.Rows L2
variable [LT]
/-! ### ties in the order of cheapness, laid one after the other -/
def prI (ps : List Int) (i : Nat) : Int := ps.getD i 0
/-- i is cheaper than j -/
def chB (ps : List Int) (i j : Nat) : Prop := prI ps i < prI ps j ∨ (prI ps i = prI ps j ∧ i < j)
instance (ps : List Int) (i j : Nat) : Decidable (chB ps i j) := by unfold chB; exact inferInstance
/-! the ties of numbers, those laid among them -/
def tsN (ts : List (Int × Int)) (l : List Nat) : List (Int × Int) := l.map fun i => ts.getD i (0, 0)
def ldN (ws : List V) (l : List Nat) : List Nat := l.filter fun i => !decide (ws.getD i .non = V.non)
theorem laidT_tsN : ∀ {ts : List (Int × Int)} {ws : List V}, ws.length = ts.length → laidT ts ws = tsN ts (ldN ws (List.range ts.length)) := by
  intro ts ws hl
  have h := pick_laid hl ts.length (Nat.le_refl _)
  rw [List.take_length, List.take_of_length_le (by omega)] at h
  rw [← h]
  unfold pick laidM tsN ldN upTo
  rw [Int.toNat_natCast, List.filter_map, List.map_map]
  rfl
theorem tsN_perm {ts : List (Int × Int)} {l m : List Nat} (h : l.Perm m) : (tsN ts l).Perm (tsN ts m) := h.map _
/-- no lot has more laid ties within than its forests hold -/
theorem LayK.most {ts : List (Int × Int)} {k : Int} {ws : List V} (hL : LayK ts k ws) (hk : 0 ≤ k) {ls : List Int} (hn : ls.Nodup) (hne : ls ≠ []) : (inside ls (laidT ts ws) : Int) ≤ k * ((ls.length : Int) - 1) := by
  have e := inside_laid ls hL.len hL.each
  rw [e]
  have hm := sum_most (s := (ls.length : Int) - 1) (g := fun f => (inside ls (layerOf ts ws f) : Int)) (l := upTo k) fun f _ => by
    have := inside_forest (hL.tree f) hn hne
    show (inside ls (layerOf ts ws f) : Int) ≤ _
    omega
  have hl : ((upTo k).length : Int) = k := by rw [upTo_length]; omega
  rw [hl] at hm
  exact hm.1
/-! the law's own: each tie, in the order, that can be laid with those taken ahead -/
end FF
namespace FF
open PySem PySem.Spec PyProof.Rows L2
variable [LT]
/-! ### (p, i) < (q, j), (p, i) > (q, j) -/
end FF
namespace FF
open PySem PySem.Spec PyProof.Rows L2
variable [LT]
/-! ### papers of cheapest ties, of any thing -/
end FF
namespace FF
open PySem PySem.Spec PyProof.Rows L2
variable [LT]
/-! ### no others that can be laid are more -/
theorem lay_tsN {ts : List (Int × Int)} {ws : List V} (h : ws.length = ts.length) (f : Int) : layerOf ts ws f = tsN ts ((List.range ts.length).filter fun i => decide (ws.getD i .non = V.int f)) := by
  unfold layerOf tsN
  have key : ∀ m, m ≤ ts.length → (((ts.take m).zip (ws.take m)).filter fun p => decide (p.2 = V.int f)).map Prod.fst = ((List.range m).filter fun i => decide (ws.getD i .non = V.int f)).map fun i => ts.getD i (0, 0) := by
    intro m
    induction m with
    | zero => exact fun _ => rfl
    | succ m ih =>
      intro hm
      have h1 : ts[m]? = some (ts.getD m (0, 0)) := by rw [List.getD_eq_getElem?_getD, List.getElem?_eq_getElem (by omega)]; rfl
      have h2 : ws[m]? = some (ws.getD m .non) := by rw [List.getD_eq_getElem?_getD, List.getElem?_eq_getElem (by omega)]; rfl
      rw [take_next h1, take_next h2, List.zip_append (by rw [List.length_take, List.length_take]; omega), List.filter_append, List.map_append, ih (by omega), List.range_succ, List.filter_append, List.map_append]
      congr 1
      show (List.filter _ [(ts.getD m (0, 0), ws.getD m .non)]).map Prod.fst = _
      rw [List.filter_cons, List.filter_cons]
      dsimp only
      split <;> rfl
  have := key ts.length (Nat.le_refl _)
  rw [List.take_length, List.take_of_length_le (by omega)] at this
  exact this
theorem getD_map_pre {α : Type} (pre : List Nat) (g : Nat → α) (d : α) (i : Nat) (hi : i < pre.length) : (pre.map g).getD i d = g (pre.getD i 0) := by
  rw [List.getD_eq_getElem?_getD, List.getElem?_map, List.getElem?_eq_getElem hi, List.getD_eq_getElem?_getD, List.getElem?_eq_getElem hi]
  rfl
theorem range_getD (pre : List Nat) : (List.range pre.length).map (fun i => pre.getD i 0) = pre := by
  refine List.ext_getElem? fun i => ?_
  rw [List.getElem?_map]
  by_cases h : i < pre.length
  · rw [List.getElem?_range h, List.getElem?_eq_getElem h]
    show some (pre.getD i 0) = _
    rw [List.getD_eq_getElem?_getD, List.getElem?_eq_getElem h]
    rfl
  · rw [List.getElem?_eq_none (by rw [List.length_range]; omega), List.getElem?_eq_none (by omega)]
    rfl
/-- the layer of picked ties -/
theorem lay_pre {ts : List (Int × Int)} {ws : List V} (pre : List Nat) (f : Int) : layerOf (tsN ts pre) (pre.map fun i => ws.getD i .non) f = tsN ts (pre.filter fun i => decide (ws.getD i .non = V.int f)) := by
  have hl : (pre.map fun i => ws.getD i .non).length = (tsN ts pre).length := by unfold tsN; rw [List.length_map, List.length_map]
  rw [lay_tsN hl]
  have e : (tsN ts pre).length = pre.length := by unfold tsN; rw [List.length_map]
  rw [e]
  conv => rhs; rw [← range_getD pre]
  unfold tsN
  rw [List.filter_map, List.map_map]
  have e1 : (List.range pre.length).filter (fun i => decide ((pre.map fun i => ws.getD i .non).getD i .non = V.int f)) = (List.range pre.length).filter ((fun i => decide (ws.getD i .non = V.int f)) ∘ fun i => pre.getD i 0) := List.filter_congr fun i hi => by
    rw [getD_map_pre pre _ _ i (List.mem_range.mp hi)]
    rfl
  rw [e1]
  refine List.map_congr_left fun i hi => ?_
  exact getD_map_pre pre (fun i => ts.getD i (0, 0)) _ i (List.mem_range.mp (List.mem_filter.mp hi).1)
theorem sub_of {l m : List Nat} (hl : l.Nodup) (hm : m.Nodup) (h : ∀ x ∈ l, x ∈ m) : ∃ l', l.Perm l' ∧ l'.Sublist m := by
  refine ⟨m.filter fun x => decide (x ∈ l), (List.perm_ext_iff_of_nodup hl (hm.filter _)).mpr fun x => ?_, List.filter_sublist⟩
  rw [List.mem_filter, decide_eq_true_eq]
  exact ⟨fun z => ⟨h x z, z⟩, fun z => z.2⟩
theorem LayK.pre {ts : List (Int × Int)} {k : Int} {ws : List V} (hL : LayK ts k ws) {pre : List Nat} (nd : pre.Nodup) (hd : ∀ i ∈ pre, i < ts.length) : LayK (tsN ts pre) k (pre.map fun i => ws.getD i .non) := by
  have hwl := hL.len
  refine ⟨by unfold tsN; rw [List.length_map, List.length_map], fun x hx => ?_, fun f => ?_⟩
  · obtain ⟨i, hi, rfl⟩ := List.mem_map.mp hx
    have il : i < ws.length := by have := hd i hi; omega
    have : ws.getD i .non ∈ ws := by
      rw [List.getD_eq_getElem?_getD, List.getElem?_eq_getElem il]
      exact List.getElem_mem il
    exact hL.each _ this
  · rw [lay_pre]
    obtain ⟨l', hp, hs⟩ := sub_of (nd.filter fun i => decide (ws.getD i .non = V.int f)) (List.nodup_range.filter fun i => decide (ws.getD i .non = V.int f)) (m := (List.range ts.length).filter fun i => decide (ws.getD i .non = V.int f)) fun x hx => by
      obtain ⟨h1, h2⟩ := List.mem_filter.mp hx
      exact List.mem_filter.mpr ⟨List.mem_range.mpr (hd x h1), h2⟩
    rw [ringlessF_perm (tsN_perm hp)]
    refine ringlessF_sub (hs.map _) ?_
    have := hL.tree f
    rw [lay_tsN hwl] at this
    exact this
end FF
namespace FF
open PySem PySem.Spec PyProof.Rows L2
variable [LT]
/-! ### none dearer -/
end FF
namespace FF
open PySem PySem.Spec PyProof.Rows L2
variable [LT]
/-! ### the told paper of cheapest ties is let by -/
end FF
namespace FF
open PySem PySem.Spec PyProof.Rows L2
variable [LT]
/-! ### numbers sorted -/
end FF
namespace FF
open PySem PySem.Spec PyProof.Rows L2
variable [LT]
/-! ### ties in another order: the same prices are laid -/
theorem LayK.can {n : Nat} {ts : List (Int × Int)} {k : Int} {ws : List V} (hL : LayK ts k ws) (hk : 0 ≤ k) : canF n (tsN ts (ldN ws (List.range ts.length))) k = true := canF_iff.mpr fun ls hls => by
  rw [← laidT_tsN hL.len]
  exact hL.most hk (hls.up.imp fun h => Int.ne_of_lt h) hls.ne
end FF
namespace FF
open PySem PySem.Spec PyProof.Rows L2
variable [LT]
/-! ### str of data: asked where no repr is under way -/
def rStrD (K : PySem.W.Frag) : List V → Hp → VK → Prop := fun vs H Q => ∃ (a : Addr) (d : PyData), vs = [.ref a] ∧ Dp K H (.ref a) d ∧ d.showable = true ∧ d.hasDict = false ∧ d.depth ≤ 60 ∧ d.shown.length ≤ sizeLine ∧ Q (.str d.shown) H
theorem cr_strD {X : Cx} {K : PySem.W.Frag} (hg : X.A.guards = some []) (hu : X.A.units + 64 < cLine) (hK : X.K = K := by rfl) : CallR X (.type "str") (rStrD K) := by
  subst hK
  intro pins s σ H vs us Q I r h
  obtain ⟨a, d, rfl, hd, h1, h2, h3, h4, q⟩ := h
  obtain ⟨u, rfl, ru⟩ := vals1 r
  obtain rfl : u = Value.ref a := ru
  obtain ⟨as, r1⟩ := Dp.reads I d _ _ hd rfl
  exact str_of_reads r1 h1 (PyData.noDict_hsm h2) hg (by omega) (fun _ _ e => e) (fun h' u tk hk => ⟨.str d.shown, H, I.kept hk, ⟨u, rfl⟩, q⟩) h4
/-! a def that is right where no repr is under way -/
structure FnOkG (P : Program) (w : World) (K : PySem.W.Frag) (mg : Str → Option Value) (base : Heap) (CX : CXT) (k : Nat) (f : Addr) (fd : FuncData) (ps : List Str) (sp : Sp) : Prop where
  few : ∀ vs H Q E, sp vs H Q E → vs.length = ps.length
  go : ∀ {A : Around} (outer : List Env) (s : Shared) (H : Hp) (args : Args) (us : List Value) (vs : List V) (Q : VK) (E : XK), A.guards = some [] → Room k A → Env0 P w K mg base A outer s H → BindsTo s fd args (ps.zip us) → Vals vs us → sp vs H Q E →
    codeAny (model P w) A (.call (.ref f) args) (CR CX outer P w H s Q E) s
theorem DefAt.okG {P : Program} {w : World} {K : PySem.W.Frag} {mg : Str → Option Value} {base : Heap} {x : Str} {st : Stmt} {f : Addr} {fd : FuncData} {N ps : List Str} {k : Nat} {sp : Sp} (D : DefAt K mg x st ps f fd) (S : FnScope N ps (defScope st)) (len : ∀ vs H Q E, sp vs H Q E → vs.length = ps.length)
    (hbody : ∀ (A : Around) (outer : List Env) (s : Shared) (H : Hp) (vs : List V) (Q : VK) (E : XK), A.guards = some [] → Room k (A.deeper (envOfC x (defScope st) s.heap.objs.size f fd.code)) → sp vs H Q E →
      ∃ t, PSs (cxOf CX0 P w K mg base N x (defScope st) f fd.code A outer s H E).nox (defBody st) t ∧ t { nx := fun _ H' => Q .non H', rt := Q } (start N vs) H) : FnOkG P w K mg base CX0 (k + 1) f fd ps sp := by
  obtain ⟨oc, od, dV, kV, doc, pm, an, cdv, ct, osl, rfl, lk, hcd, _, _⟩ := D.F.ex
  refine ⟨len, fun {A} outer s H args us vs Q E hgd hr e0 hb rv hsp => ?_⟩
  have old : ∀ b o, base.get? b = some o → s.heap.get? b = some o := fun b o e => (e0.bs b o e).1
  obtain ⟨t, ht, ask⟩ := hbody A outer s H vs Q E hgd (hr.deeper _) hsp
  have cells : ∀ y ∈ ps.zip us, (defScope st).names.lookup y.1 = some .local ∨ ((defScope st).names.lookup y.1 = some .cell ∧ ((cellsFrom (s.heap.objs.size + 1) (defScope st).names []).lookup y.1).isSome = true) := fun y hy =>
    (S.par y.1 (List.of_mem_zip (a := y.1) (b := y.2) hy).1).imp id fun z => ⟨z, PySem.W.cellsFrom_some _ _ _ (.inl z)⟩
  have kin := e0.mod.kin.keeps old
  refine codeAny_call_function hr.depth (kin _ _ lk) rfl S.co S.gen rfl (PySem.W.codeRec_of kin hcd) (hb _ _ _ _ (wpAny_newFunctionEnv_cells S.kind cells fun env he s1 into => ?_))
  subst he
  have I0 : Inv (cxOf CX0 P w K mg base N x (defScope st) f cdv A outer s H E) [] (start N vs) H s1 := inv_start S hr.hd e0 (len _ _ _ _ hsp) rv into
  refine ⟨(e0.mod.nolimit.keeps old).keeps into.toInCall.keep, codeAny_func (wpAny_mono (ht.nox.run [] s1 (start N vs) H _ I0 ask) (fun fl s' z => ?_) fun _ _ z => z)⟩
  match fl, z with
  | .ret _, ⟨v, _, H', J, ru, q⟩ => exact ⟨v, H', J.os, J.bare, J.base, J.hok, ru, q⟩
  | .next, ⟨_, H', J, q⟩ => exact ⟨.non, H', J.os, J.bare, J.base, J.hok, rfl, q⟩
  | .brk, ⟨_, _, _, q⟩ => exact q.elim
  | .cont, ⟨_, _, _, q⟩ => exact q.elim
end FF
namespace FF
open PySem PySem.Spec PyProof.Rows L2
variable [LT]
/-! ### the end of a law that asks str: it starts where no repr is under way -/
section
variable {K : PySem.W.Frag} {cs : List (Addr × Addr)} {a : Addr} {vs : List Value} {ns : List Int} {h : Heap}
open Classical in
/-- all that is tracked at a law's start: the tables, and the script's list unless it stands in the fragment -/
noncomputable def H0G (K : PySem.W.Frag) (cs : List (Addr × Addr)) (a : Addr) (vs : List Value) (ns : List Int) : Hp := fun b =>
  if (∃ p ∈ cs, p.2 = b) then some (.tbl #[]) else if b = a ∧ K.lookup a = none then some (.frz { cls := .type "list", data := .seq vs.toArray } (.lst (ns.map V.int))) else none
inductive H0Is (K : PySem.W.Frag) (cs : List (Addr × Addr)) (a : Addr) (vs : List Value) (ns : List Int) (b : Addr) : Prop
  | tab (p : Addr × Addr) (hp : p ∈ cs) (e : p.2 = b) (z : H0G K cs a vs ns b = some (.tbl #[]))
  | scr (n : ¬ ∃ p ∈ cs, p.2 = b) (e : b = a) (k : K.lookup a = none) (z : H0G K cs a vs ns b = some (.frz { cls := .type "list", data := .seq vs.toArray } (.lst (ns.map V.int))))
  | no (n : ¬ ∃ p ∈ cs, p.2 = b) (k : b = a → K.lookup a ≠ none) (z : H0G K cs a vs ns b = none)
theorem h0_is (K : PySem.W.Frag) (cs : List (Addr × Addr)) (a : Addr) (vs : List Value) (ns : List Int) (b : Addr) : H0Is K cs a vs ns b := by
  by_cases t : ∃ p ∈ cs, p.2 = b
  · obtain ⟨p, hp, e⟩ := id t
    exact .tab p hp e (if_pos t)
  · by_cases q : b = a ∧ K.lookup a = none
    · exact .scr t q.1 q.2 ((if_neg t).trans (if_pos q))
    · exact .no t (fun e z => q ⟨e, z⟩) ((if_neg t).trans (if_neg q))
theorem h0_free {b : Addr} {o : Obj} (hT : ∀ p ∈ cs, h.get? p.2 = some { cls := .none, data := .fields #[] }) (ha : h.get? a = some { cls := .type "list", data := .seq vs.toArray }) (e : h.get? b = some o) (n1 : ∀ xs m, o.data ≠ .seq xs m) (n2 : o.data ≠ .fields #[]) : H0G K cs a vs ns b = none := by
  rcases h0_is K cs a vs ns b with ⟨p, hp, pe, _⟩ | ⟨_, rfl, _, _⟩ | ⟨_, _, z⟩
  · have := hT p hp
    rw [pe, e] at this
    cases this
    exact (n2 rfl).elim
  · rw [ha] at e
    cases e
    exact (n1 _ _ rfl).elim
  · exact z
theorem h0_ns {b : Addr} {m : Str → Option Value} (hT : ∀ p ∈ cs, h.get? p.2 = some { cls := .none, data := .fields #[] }) (ha : h.get? a = some { cls := .type "list", data := .seq vs.toArray }) (n : h.Ns b m) : (hidT h (H0G K cs a vs ns)).Ns b m := by
  obtain ⟨o, es, ep, e, d, r⟩ := n
  exact ⟨o, es, ep, hidT_get e (h0_free hT ha e (fun _ _ z => by rw [d] at z; cases z) fun z => by rw [d] at z; cases z), d, r⟩
theorem h0_in (KX : K.In h) (nT : ∀ p ∈ cs, K.lookup p.2 = none) : K.In (hidT h (H0G K cs a vs ns)) := fun b o e => hidT_get (KX b o e) (by
  rcases h0_is K cs a vs ns b with ⟨p, hp, rfl, _⟩ | ⟨_, rfl, k, _⟩ | ⟨_, _, z⟩
  · rw [nT p hp] at e
    cases e
  · rw [k] at e
    cases e
  · exact z)
theorem h0_tab {mg : Str → Option Value} (hT : ∀ p ∈ cs, h.get? p.2 = some { cls := .none, data := .fields #[] }) (ha : h.get? a = some { cls := .type "list", data := .seq vs.toArray }) (hns : h.Ns mainGlobals mg) (C : ∀ p ∈ cs, PySem.W.CodeHd h p.1 p.2)
    (hbm : ∃ (bm : Addr) (ob : Obj), mg "__builtins__" = some (.ref bm) ∧ bm ≠ builtinsNs ∧ h.get? bm = some ob ∧ ob.cls = .type "module" ∧ ob.dict = some builtinsNs ∧ ob.data = .plain) : ∀ p ∈ cs, LamX.TabB (hidT h (H0G K cs a vs ns)) mg p.1 p.2 := fun p hp => by
  have tp := hT p hp
  obtain ⟨gd, es, ep, ge, gdd, _⟩ := hns
  obtain ⟨bm, ob, m1, m2, m3, m4, m5, m6⟩ := hbm
  obtain ⟨o, us, file, tf, flags, tg, inF, text, tt, c1, c2, c3, c4, rest⟩ := C p hp
  have apart : ∀ {b : Addr} {ob : Obj}, h.get? b = some ob → (∀ x, ob.data ≠ .fields x) → b ≠ p.2 := fun {b ob} e n z => by
    rw [z, tp] at e
    cases e
    exact n _ rfl
  refine ⟨⟨o, us, file, tf, flags, tg, inF, text, tt, hidT_get c1 (h0_free hT ha c1 (fun _ _ z => by rw [c3] at z; cases z) fun z => ?_), c2, c3, c4, rest⟩, ⟨bm, ob, m1, m2, fun z => ?_, apart m3 (fun x z => by rw [m6] at z; cases z), hidT_get m3 (h0_free hT ha m3 (fun _ _ z => by rw [m6] at z; cases z) fun z => by rw [m6] at z; cases z), m4, m5, m6⟩, apart ge fun x z => by rw [gdd] at z; cases z⟩
  · rw [c3] at z
    cases z
    simp at c4
  · rw [z, ge] at m3
    cases m3
    rw [gdd] at m6
    cases m6
theorem law_runG {P : Program} {w : World} {mg mb : Str → Option Value} {k : Nat} {fa : Addr} {fd : FuncData} {x : Str} {sp : Sp} {s₁ : Shared} (KX : K.In s₁.heap) (hns : s₁.heap.Ns mainGlobals mg) (hb : s₁.heap.Ns builtinsNs mb) (hbb : ∀ x : Str, x ≠ "__name__" → mb x = bootBuiltins x) (hlim : s₁.heap.NoLimit) (hg : s₁.gens = #[])
    (hT : ∀ p ∈ cs, s₁.heap.get? p.2 = some { cls := .none, data := .fields #[] }) (nT : ∀ p ∈ cs, K.lookup p.2 = none) (C : ∀ p ∈ cs, PySem.W.CodeHd s₁.heap p.1 p.2)
    (hbm : ∃ (bm : Addr) (ob : Obj), mg "__builtins__" = some (.ref bm) ∧ bm ≠ builtinsNs ∧ s₁.heap.get? bm = some ob ∧ ob.cls = .type "module" ∧ ob.dict = some builtinsNs ∧ ob.data = .plain)
    (ha : s₁.heap.get? a = some { cls := .type "list", data := .seq vs.toArray }) (hi : IntsAre vs ns) (hl : ns.length ≤ sizeLine) (hr : Room k callerA)
    (F : ∀ base : Heap, K.In base → base.Ns mainGlobals mg → (∀ p ∈ cs, LamX.TabB base mg p.1 p.2) → FnOkG P w K mg base CX0 k fa fd [x] sp) (hbind : ∀ (s : Shared) (u : Value), BindsTo s fd ⟨[u], []⟩ [(x, u)])
    (hsp : ∀ H : Hp, (∀ p ∈ cs, H p.2 = some (.tbl #[])) → SqL K H a (ns.map V.int) → sp [.ref a] H (fun v _ => v = .bl true) fun _ _ _ => False) :
    codeAny (model P w) callerA (.call (.ref fa) ⟨[.ref a], []⟩) (fun r s' => r = .ok (.ret (.bool true)) ∧ OldK s₁.heap s'.heap ∧ s'.os = s₁.os ∧ AllBare s'.gens) s₁ := by
  have rv := vals_ints hi
  have lenV := hi.length
  have notT : ¬ ∃ p ∈ cs, p.2 = a := fun ⟨p, hp, e⟩ => by
    have t := hT p hp
    rw [e, ha] at t
    have : Data.seq vs.toArray _ = Data.fields #[] := congrArg Obj.data (Option.some.inj t)
    cases this
  obtain ⟨H, hH⟩ : ∃ H, H = H0G K cs a vs ns := ⟨_, rfl⟩
  have tabs : ∀ p ∈ cs, H p.2 = some (.tbl #[]) := fun p hp => by
    rw [hH]
    rcases h0_is K cs a vs ns p.2 with ⟨_, _, _, z⟩ | ⟨n, _, _, _⟩ | ⟨n, _, _⟩
    · exact z
    · exact (n ⟨p, hp, rfl⟩).elim
    · exact (n ⟨p, hp, rfl⟩).elim
  have script : SqL K H a (ns.map V.int) := by
    rw [hH]
    rcases h0_is K cs a vs ns a with ⟨p, hp, e, _⟩ | ⟨_, _, _, z⟩ | ⟨_, k, _⟩
    · exact (notT ⟨p, hp, e⟩).elim
    · exact .inl (.inr ⟨_, z⟩)
    · cases q : K.lookup a with
      | none => exact (k rfl q).elim
      | some o =>
        have e := KX a o q
        rw [ha] at e
        cases e
        exact .inr ⟨_, vs.toArray, _, q, rfl, rfl, rfl, by rw [List.size_toArray, lenV]; exact hl, by simpa using rv⟩
  have hok : HOk P w H s₁.heap := fun b u z => by
    rw [hH] at z
    rcases h0_is K cs a vs ns b with ⟨p, hp, rfl, y⟩ | ⟨_, rfl, _, y⟩ | ⟨_, _, y⟩
    · rw [y] at z
      cases z
      exact hT p hp
    · rw [y] at z
      cases z
      exact ⟨ha, by rw [List.length_map]; exact hl, vs, _, rv, ha⟩
    · rw [y] at z
      cases z
  have KB : K.In (hidT s₁.heap H) := by rw [hH]; exact h0_in KX nT
  have nsB : ∀ {b : Addr} {m : Str → Option Value}, s₁.heap.Ns b m → (hidT s₁.heap H).Ns b m := fun n => by rw [hH]; exact h0_ns hT ha n
  have TB : ∀ p ∈ cs, LamX.TabB (hidT s₁.heap H) mg p.1 p.2 := by rw [hH]; exact h0_tab hT ha hns C hbm
  obtain ⟨mc, l1, l2⟩ := hlim
  have e0 : Env0 P w K mg (hidT s₁.heap H) callerA [] s₁ H := ⟨rfl, ⟨KB, nsB hns, ⟨mb, nsB hb, hbb⟩, ⟨mc, nsB l1, l2⟩⟩, fun _ _ e => of_hidT e, Nat.le_of_eq (hidT_size _ _), trivial, fun _ z => (List.not_mem_nil z).elim, hok, .of_eq hg⟩
  have run := (F _ KB (nsB hns) TB).go (A := callerA) [] s₁ H ⟨[.ref a], []⟩ [.ref a] [.ref a] _ _ rfl hr e0 (hbind s₁ (.ref a)) (.cons rfl .nil) (hsp H tabs script)
  refine codeAny_mono run fun r s' z => ?_
  match r, z with
  | .error _, z => exact z.elim
  | .ok .next, z => exact z.elim
  | .ok .brk, z => exact z.elim
  | .ok .cont, z => exact z.elim
  | .ok (.ret u), z =>
    obtain ⟨v, H', os, bare, un, hok', ru, (rfl : v = .bl true)⟩ := z
    obtain rfl : u = Value.bool true := ru
    refine ⟨rfl, ⟨fun b o e => ?_, fun b o e => ?_⟩, os, bare⟩
    · rcases h0_is K cs a vs ns b with ⟨p, hp, rfl, y⟩ | ⟨_, rfl, _, y⟩ | ⟨_, _, y⟩
      · obtain ⟨more, t⟩ := un.tbls p.2 #[] (hH ▸ y)
        rw [hT p hp] at e
        cases e
        exact .inr (.inl ⟨((C p hp).tab (hT p hp)).isCodeTable, rfl, #[], more, rfl, by rw [Array.empty_append]; exact hok' p.2 _ t |> fun z => by rw [Array.empty_append] at z; exact z⟩)
      · obtain ⟨e1, _⟩ := hok' b _ (un.frzs b _ _ (hH ▸ y))
        rw [ha] at e
        cases e
        exact .inl e1
      · exact .inl (un.keep b o e (hH ▸ y) (fun q => (List.not_mem_nil q).elim) fun q => (List.not_mem_nil q).elim)
    · exact un.there b o e fun q => (List.not_mem_nil q).elim
end
/-- what is known of such a law -/
def LawAtG (l : PySem.W.OpenLaw) (w : World) (K : PySem.W.Frag) (k n : Nat) (x : Str) (mg : Str → Option Value) (fa : Addr) (h : Heap) : Prop :=
  ∃ (fd : FuncData) (cs : List (Addr × Addr)) (sp : Sp), (∀ p ∈ cs, h.get? p.2 = some { cls := .none, data := .fields #[] }) ∧ (∀ p ∈ cs, K.lookup p.2 = none) ∧ (∀ p ∈ cs, PySem.W.CodeHd h p.1 p.2) ∧ (∀ (s : Shared) (u : Value), BindsTo s fd ⟨[u], []⟩ [(x, u)]) ∧
    (∀ (H : Hp) (a : Addr) (ns : List Int), ns.length ≤ n → (∀ z ∈ ns, Builtin.Int.intBits z ≤ 1048576) → (∀ p ∈ cs, H p.2 = some (.tbl #[])) → SqL K H a (ns.map V.int) → sp [.ref a] H (fun v _ => v = .bl true) fun _ _ _ => False) ∧
    ∀ base : Heap, K.In base → base.Ns mainGlobals mg → (∀ p ∈ cs, LamX.TabB base mg p.1 p.2) → FnOkG l.prog w K mg base CX0 k fa fd [x] sp
theorem walk_ofG {l : PySem.W.OpenLaw} {n k : Nat} {q : Program} {loose : List Str} {XP : (Str → Option Value) → Heap → Prop} {YP : World → Heap → Prop} {d : DefRec} {x : Str} (hn : l.most = some n) (hn2 : n ≤ sizeLine) (hdf : d.params.defaults = []) (hr : Room k callerA)
    (F : ∀ (w : World) (mg : Str → Option Value) (fa : Addr) (h : Heap), YP w h → h.Ns mainGlobals mg → mg d.name = some (.ref fa) → ∃ K : PySem.W.Frag, K.In h ∧ LawAtG l w K k n x mg fa h) : PySem.W.WalkO q loose XP YP l.row.toRowW d [] (fun f vs => PySem.call f vs) :=
  Att.attach_callB hn hdf fun w s₀ s₁ mg mb fa o pm cd doc a vs ns G Y ho hd hcd hmg hobj hints hlen hbits hg => by
    obtain ⟨K, KX, fd, cs, sp, t1, t2, t3, bd, ask, ok⟩ := F w mg fa _ Y G.T.g hmg
    exact law_runG KX G.T.g G.T.b G.T.builtins G.T.nolimit hg t1 t2 t3 G.T.bmain hobj hints (Nat.le_trans hlen hn2) hr ok bd fun H z1 z2 => ask H a ns hlen hbits z1 z2
end FF
namespace FF
open PySem PySem.Spec PyProof.Rows L2
variable [LT]
/-! ### lots of any thing -/
end FF
namespace FF
open PySem PySem.Spec PyProof.Rows L2
variable [LT]
/-! ### data that str shows -/
structure ShS (e c : Nat) (d : PyData) : Prop where
  sh : d.showable = true
  hd : d.hasDict = false
  lv : d.leavesShort 13 = true
  dp : d.depth ≤ e
  bk : d.bulk ≤ c
theorem ShS.fits {e c : Nat} {d : PyData} (h : ShS e c d) (hc : c ≤ 1000000) : d.shown.length ≤ sizeLine := PyData.shown_fits_bulk (by decide) (by decide) h.lv (by have := h.bk; omega)
theorem ShS.up {e c e' c' : Nat} {d : PyData} (h : ShS e c d) (h1 : e ≤ e') (h2 : c ≤ c') : ShS e' c' d := ⟨h.sh, h.hd, h.lv, Nat.le_trans h.dp h1, Nat.le_trans h.bk h2⟩
theorem shS_int {i : Int} (h0 : 0 ≤ i) (h1 : i ≤ 1000000000) : ShS 0 0 (.int i) := by
  refine ⟨?_, rfl, ?_, Nat.le_refl _, Nat.le_refl _⟩
  · refine decide_eq_true ?_
    have h2 : i.natAbs < 2 ^ 30 := by omega
    by_cases z : i.natAbs = 0
    · rw [z]
      decide
    · have := (Nat.log2_lt z).mpr h2
      omega
  · refine decide_eq_true ?_
    exact toString_length_le h0 (k := 13) (by decide) (by omega)
structure ShA (e c : Nat) (ds : List PyData) : Prop where
  sh : PyData.showableAll ds = true
  hd : PyData.hasDictAll ds = false
  lv : PyData.leavesShortAll 13 ds = true
  dp : PyData.depthAll ds ≤ e
  bk : PyData.bulkAll ds ≤ c
theorem shA_nil {e : Nat} : ShA e 0 [] := ⟨rfl, rfl, rfl, Nat.zero_le _, Nat.le_refl _⟩
theorem ShA.cons {e c c' : Nat} {d : PyData} {ds : List PyData} (h : ShS e c d) (t : ShA e c' ds) : ShA e (c + 1 + c') (d :: ds) := by
  refine ⟨?_, ?_, ?_, ?_, ?_⟩
  · show (d.showable && PyData.showableAll ds) = true
    rw [h.sh, t.sh]
    rfl
  · show (d.hasDict || PyData.hasDictAll ds) = false
    rw [h.hd, t.hd]
    rfl
  · show (PyData.leavesShort 13 d && PyData.leavesShortAll 13 ds) = true
    rw [h.lv, t.lv]
    rfl
  · show max d.depth (PyData.depthAll ds) ≤ e
    exact Nat.max_le.mpr ⟨h.dp, t.dp⟩
  · show d.bulk + 1 + PyData.bulkAll ds ≤ _
    have := h.bk
    have := t.bk
    omega
theorem shA_of {e c : Nat} : ∀ {ds : List PyData}, (∀ d ∈ ds, ShS e c d) → ShA e (ds.length * (c + 1)) ds
  | [], _ => ⟨rfl, rfl, rfl, Nat.zero_le _, Nat.zero_le _⟩
  | d :: ds, h => by
    have a := ShA.cons (h d List.mem_cons_self) (shA_of fun x hx => h x (List.mem_cons_of_mem _ hx))
    refine ⟨a.sh, a.hd, a.lv, a.dp, Nat.le_trans a.bk ?_⟩
    rw [List.length_cons, Nat.add_mul]
    omega
theorem ShA.tup {e c : Nat} {ds : List PyData} (h : ShA e c ds) : ShS (e + 1) c (.tuple ds) := ⟨h.sh, h.hd, h.lv, Nat.succ_le_succ h.dp, h.bk⟩
theorem ShA.lst {e c : Nat} {ds : List PyData} (h : ShA e c ds) : ShS (e + 1) c (.list ds) := ⟨h.sh, h.hd, h.lv, Nat.succ_le_succ h.dp, h.bk⟩
theorem shS_ints {ls : List Int} (h : ∀ x ∈ ls, 0 ≤ x ∧ x ≤ 1000000000) : ShS 1 ls.length (.tuple (ls.map PyData.int)) := by
  have := (shA_of (e := 0) (c := 0) (ds := ls.map PyData.int) fun d hd => by
    obtain ⟨i, hi, rfl⟩ := List.mem_map.mp hd
    exact shS_int (h i hi).1 (h i hi).2).tup
  rw [List.length_map, Nat.zero_add, Nat.mul_one] at this
  exact this
theorem shS_web {n : Int} {ts : List (Int × Int)} (hn0 : 0 ≤ n) (hn : n ≤ 1000) (ok : TOk n ts) : ShS 3 (3 * ts.length + 2) (dWeb n ts) := by
  have e1 : ∀ d ∈ ts.map (fun e => PyData.tuple [.int e.1, .int e.2]), ShS 1 2 d := fun d hd => by
    obtain ⟨t, ht, rfl⟩ := List.mem_map.mp hd
    have := ok t ht
    exact (ShA.cons (shS_int (by omega) (by omega)) (ShA.cons (shS_int (by omega) (by omega)) (shA_nil (e := 0)))).tup
  have e2 := (shA_of e1).tup
  rw [List.length_map] at e2
  have e3 := (ShA.cons (shS_int hn0 (by omega) |>.up (Nat.zero_le 2) (Nat.le_refl 0)) (ShA.cons e2 (shA_nil (e := 2)))).tup
  exact e3.up (Nat.le_refl _) (by omega)
end FF
namespace FF
open PySem PySem.Spec PyProof.Rows L2
variable [LT]
/-! ### sums of prices; what cheapest_ties tells, as data -/
end FF
namespace FF
open PySem PySem.Spec PyProof.Rows L2
variable [LT]
/-! ### defs that are called within an except suite -/
section
open HotX L2H
end
end FF
namespace FF
open PySem PySem.Spec PyProof.Rows L2
variable [LT]
/-! ### stand-ins -/
end FF
namespace FF
open PySem PySem.Spec PyProof.Rows L2
variable [LT]
/-! ### the numbers without one -/
end FF
namespace FF
open PySem PySem.Spec PyProof.Rows L2
variable [LT]
/-! ### all stand-ins -/
end FF
namespace FF
open PySem PySem.Spec PyProof.Rows L2
variable [LT]
/-! ### a search that goes on and back (what it may still find, how long it goes) -/
end FF
namespace FF
open PySem PySem.Spec PyProof.Rows L2
variable [LT]
/-! ### dict(zip(xs, ys)) of two lists, the keys ints -/
section
variable {X : Cx}
end
end FF
namespace FF
open PySem PySem.Spec PyProof.Rows L2
variable [LT]
/-! ### papers made up: places turned, reasons picked -/
/-! the greedy, piece by piece -/
end FF
namespace FF
open PySem PySem.Spec PyProof.Rows L2
variable [LT]
/-! ### one of a list's things -/
end FF
namespace FF
open PySem PySem.Spec PyProof.Rows L2
variable [LT]
/-! ### tuple(reversed(xs)), xs a tuple -/
section
open RT PySem
variable {prog : Program} {w : World} {A : Around} {E : Value → Shared → Prop} {s : Shared}
end
section
open RT PySem
variable {X : Cx}
end
end FF
namespace FF
open PySem PySem.Spec PyProof.Rows L2
variable [LT]
/-! ### cheaper ties make trees in a reason's lot; the same ties at other prices -/
/-! the ring within the reason's lot -/
/-! three trees on all points -/
end FF
namespace FF
open PySem PySem.Spec PyProof.Rows L2
variable [LT]
/-! ### webs of which all is laid, two points, a ring -/
/-! two points -/
/-! a ring -/
end FF
namespace FF
open PySem PySem.Spec PyProof.Rows L2
variable [LT]
/-! ### what is told of a ring and of two points -/
end FF
namespace FF
open PySem PySem.Spec PyProof.Rows L2
variable [LT]
/-! ### t[i::m] of a tuple -/
section
variable {prog : Program} {w : World} {A : Around} {E : Value → Shared → Prop} {s : Shared}
end
section
variable {X : Cx}
end
end FF
namespace FF
open PySem PySem.Spec PyProof.Rows L2
variable [LT]
/-! ### fractions: thickness, strength, crowd -/
end FF
namespace FF
open PySem PySem.Spec PyProof.Rows L2
variable [LT]
/-! ### a match in the heap -/
theorem ix_nat {n t : Nat} (h : t < n) : ixN n (t : Int) = some t := by rw [ix_in (by omega) (by omega), Int.toNat_natCast]
end FF
namespace FF
open PySem PySem.Spec PyProof.Rows L2
variable [LT]
/-! ### trees that join all points, and the tie that bridges -/
/-! ### where the ties of a match are -/
end FF
namespace FF
open PySem PySem.Spec PyProof.Rows L2
variable [LT]
/-! ### a match is played -/
end FF
namespace FF
open PySem PySem.Spec PyProof.Rows L2
variable [LT]
/-! ### a match told exactly -/
/-! ### what was cut in turn -/
end FF
namespace FF
open PySem PySem.Spec PyProof.Rows L2
variable [LT]
/-! ### a generator expression with two fors: a turn, the frame, the protocol -/
/-- the same context under another stack of calls -/
theorem Inv.around {Z : Cx} {A : Around} {pins : List (Addr × Obj)} {σ : L2.St} {H : Hp} {s : Shared} (I : L2.Inv Z pins σ H s) (h1 : A.handled = none) (h2 : A.frames = some Z.stack) : L2.Inv { Z with A := A } pins σ H s :=
  ⟨⟨I.ok.mod, I.ok.kind, I.ok.glob, I.ok.blt, I.ok.above, I.ok.inj, I.ok.has, I.ok.cab, fun _ => h1, h2, I.ok.stk, I.ok.exf, I.ok.bs, I.ok.bsz, I.ok.noex, I.ok.exfs, I.ok.funs, I.ok.frf⟩, I.os, I.bare, I.base, I.loc, I.cell, I.free, I.freeC, I.pin, I.hok, I.len⟩
section
variable {α : Type}
end
end FF
namespace FF
open PySem PySem.Spec PyProof.Rows L2
variable [LT]
section
variable {α : Type}
end
end FF
namespace FF
open PySem PySem.Spec PyProof.Rows L2
variable [LT]
section
variable {α : Type}
end
end FF
namespace FF
open PySem PySem.Spec PyProof.Rows L2
variable [LT]
section
variable {M : Model} {A : Around} {E : Value → Shared → Prop} {s : Shared}
end
section
variable {X : Cx} {pins : List (Addr × Obj)} {σ : L2.St} {H : Hp} {s : Shared}
section
variable {α : Type} {elt tg iter tg1 iter1 : Expr} {scope : Scope} {gpos : Pos} {N : List Str} {src : List (Option Nat)} {J : It} {G : Hp} {it : Addr} {fp : List Addr} {tn : Nat → Heap → Prop} {code : Value} {s4 t : Shared} {ga : Addr} {g : Nat} {gg : TG} {wi1 : TI} {gg1 : TG} {te : TE}
end
end
end FF
namespace FF
open PySem PySem.Spec PyProof.Rows L2
variable [LT]
section
variable {X : Cx} {pins : List (Addr × Obj)} {σ : L2.St} {elt tg iter tg1 iter1 : Expr} {scope : Scope} {gpos : Pos} {N : List Str} {src : List (Option Nat)} {J : It} {G : Hp} {it : Addr} {fp : List Addr} {tn : Nat → Heap → Prop} {code : Value} {s4 t : Shared} {ga : Addr} {g : Nat} {gg : TG} {wi1 : TI} {gg1 : TG} {te : TE}
end
section
variable {X : Cx} {c P : Addr} {elt tg iter tg1 iter1 : Expr} {scope : Scope} {gpos p pos : Pos} {N : List Str} {src : List (Option Nat)} {wi : TI} {g : TG} {wi1 : TI} {g1 : TG} {te : TE} {k : Nat} {vs vs1 : List Nat}
end
end FF
namespace FF
open PySem PySem.Spec PyProof.Rows L2
variable [LT]
/-! ### what lots join -/
end FF
namespace FF
open PySem PySem.Spec PyProof.Rows L2
variable [LT]
/-! ### tight lots with a point in common, the greatest tight lots -/
theorem four_len (p q : Int → Bool) : ∀ L : List Int, (L.filter fun x => p x || q x).length + (L.filter fun x => p x && q x).length = (L.filter p).length + (L.filter q).length
  | [] => rfl
  | x :: L => by
    have ih := four_len p q L
    rw [List.filter_cons, List.filter_cons, List.filter_cons, List.filter_cons]
    cases p x <;> cases q x <;> simp <;> omega
def orL (n : Int) (A B : List Int) : List Int := (upTo n).filter fun x => decide (x ∈ A) || decide (x ∈ B)
def andL (n : Int) (A B : List Int) : List Int := (upTo n).filter fun x => decide (x ∈ A) && decide (x ∈ B)
theorem Lot.filt {n : Int} {A : List Int} (h : Lot n A) : (upTo n).filter (fun x => decide (x ∈ A)) = A := sorted_one ((upTo_up n).filter _) h.up fun x => by
  rw [List.mem_filter, decide_eq_true_eq]
  exact ⟨fun z => z.2, fun z => ⟨upTo_mem.mpr (h.ok x z), z⟩⟩
theorem mem_orL {n : Int} {A B : List Int} (ha : Lot n A) (hb : Lot n B) {x : Int} : x ∈ orL n A B ↔ x ∈ A ∨ x ∈ B := by
  unfold orL
  rw [List.mem_filter, Bool.or_eq_true, decide_eq_true_eq, decide_eq_true_eq]
  exact ⟨fun z => z.2, fun z => ⟨upTo_mem.mpr (z.elim (ha.ok x) (hb.ok x)), z⟩⟩
theorem mem_andL {n : Int} {A B : List Int} (ha : Lot n A) {x : Int} : x ∈ andL n A B ↔ x ∈ A ∧ x ∈ B := by
  unfold andL
  rw [List.mem_filter, Bool.and_eq_true, decide_eq_true_eq, decide_eq_true_eq]
  exact ⟨fun z => z.2, fun z => ⟨upTo_mem.mpr (ha.ok x z.1), z⟩⟩
theorem or_and_inside {n : Int} {A B : List Int} (ha : Lot n A) (hb : Lot n B) : ∀ L : List (Int × Int), inside A L + inside B L ≤ inside (orL n A B) L + inside (andL n A B) L
  | [] => Nat.le_refl _
  | t :: L => by
    have ih := or_and_inside ha hb L
    rw [inside_cons, inside_cons, inside_cons, inside_cons]
    have e1 : decide (t.1 ∈ orL n A B) = (decide (t.1 ∈ A) || decide (t.1 ∈ B)) := by rw [← Bool.decide_or]; exact decide_eq_decide.mpr (mem_orL ha hb)
    have e2 : decide (t.2 ∈ orL n A B) = (decide (t.2 ∈ A) || decide (t.2 ∈ B)) := by rw [← Bool.decide_or]; exact decide_eq_decide.mpr (mem_orL ha hb)
    have e3 : decide (t.1 ∈ andL n A B) = (decide (t.1 ∈ A) && decide (t.1 ∈ B)) := by rw [← Bool.decide_and]; exact decide_eq_decide.mpr (mem_andL ha)
    have e4 : decide (t.2 ∈ andL n A B) = (decide (t.2 ∈ A) && decide (t.2 ∈ B)) := by rw [← Bool.decide_and]; exact decide_eq_decide.mpr (mem_andL ha)
    rw [e1, e2, e3, e4]
    generalize decide (t.1 ∈ A) = a1, decide (t.2 ∈ A) = a2, decide (t.1 ∈ B) = b1, decide (t.2 ∈ B) = b2
    cases a1 <;> cases a2 <;> cases b1 <;> cases b2 <;> simp <;> omega
section
variable {ts : List (Int × Int)} {n k : Int} {ws : List V}
theorem TightL.union {A B : List Int} (hL : LayK ts k ws) (a : TightL ts n k ws A) (b : TightL ts n k ws B) {x : Int} (xa : x ∈ A) (xb : x ∈ B) : TightL ts n k ws (orL n A B) := by
  have hl := four_len (fun x => decide (x ∈ A)) (fun x => decide (x ∈ B)) (upTo n)
  rw [a.lot.filt, b.lot.filt] at hl
  have hl : (orL n A B).length + (andL n A B).length = A.length + B.length := hl
  have xo : x ∈ orL n A B := (mem_orL a.lot b.lot).mpr (.inl xa)
  have xi : x ∈ andL n A B := (mem_andL a.lot).mpr ⟨xa, xb⟩
  have ne1 : orL n A B ≠ [] := fun e => by rw [e] at xo; cases xo
  have ne2 : andL n A B ≠ [] := fun e => by rw [e] at xi; cases xi
  have up1 : (orL n A B).Pairwise (· < ·) := (upTo_up n).filter _
  have up2 : (andL n A B).Pairwise (· < ·) := (upTo_up n).filter _
  refine ⟨⟨ne1, up1, fun y hy => mem_upTo (List.mem_filter.mp hy).1⟩, fun f f0 f1 => ?_⟩
  have h1 := inside_forest (hL.tree f) (rise_nd up1) ne1
  have h2 := inside_forest (hL.tree f) (rise_nd up2) ne2
  have h3 := or_and_inside a.lot b.lot (layerOf ts ws f)
  have h4 := a.tight f f0 f1
  have h5 := b.tight f f0 f1
  omega
/-- a tight lot holds both -/
def Tog (ts : List (Int × Int)) (n k : Int) (ws : List V) (x y : Int) : Prop := ∃ ls, TightL ts n k ws ls ∧ x ∈ ls ∧ y ∈ ls
theorem Tog.symm {x y : Int} (h : Tog ts n k ws x y) : Tog ts n k ws y x := let ⟨l, a, b, c⟩ := h; ⟨l, a, c, b⟩
theorem Tog.trans {x y z : Int} (hL : LayK ts k ws) (h : Tog ts n k ws x y) (g : Tog ts n k ws y z) : Tog ts n k ws x z := by
  obtain ⟨A, a, xa, ya⟩ := h
  obtain ⟨B, b, yb, zb⟩ := g
  exact ⟨orL n A B, a.union hL b ya yb, (mem_orL a.lot b.lot).mpr (.inl xa), (mem_orL a.lot b.lot).mpr (.inr zb)⟩
open Classical in
/-- all that a tight lot holds with x -/
noncomputable def cT (ts : List (Int × Int)) (n k : Int) (ws : List V) (x : Int) : List Int := (upTo n).filter fun y => decide (Tog ts n k ws x y)
end
end FF
namespace FF
open PySem PySem.Spec PyProof.Rows L2
variable [LT]
/-! ### the brims: the greatest tight lots in their order -/
section
variable {ts : List (Int × Int)} {k : Int} {ws : List V} {m : Nat}
end
end FF
namespace FF
open PySem PySem.Spec PyProof.Rows L2
variable [LT]
/-! ### sum(lists, []) -/
section
variable {X : Cx}
end
end FF
namespace FF
open PySem PySem.Spec PyProof.Rows L2
variable [LT]
/-! ### sorted of a list of lots, with its order -/
end FF
namespace FF
open PySem PySem.Spec PyProof.Rows L2
variable [LT]
/-! ### sorted of a tuple of lots; zip of a tuple and a tuple or a list -/
section
variable {prog : Program} {w : World} {A : Around} {E : Value → Shared → Prop} {s : Shared} {β : Type}
end
end FF
namespace FF
open PySem PySem.Spec PyProof.Rows L2
variable [LT]
/-! ### blocks with trees side by side -/
section
variable {ts : List (Int × Int)} {k : Int} {ws : List V} {m : Nat}
end
end FF
namespace FF
open PySem PySem.Spec PyProof.Rows L2
variable [LT]
/-! ### a call of a def that asks str -/
section
variable {X : Cx} {CX : CXT} {k : Nat} {f : Addr} {fd : FuncData} {ps : List Str} {sp : Sp} {dvs : List V} {ds : List Value} {E : XK} {x : Str} {p pos : Pos} {e : Expr} {es : List Expr} {t : TA}
theorem pe_callG (hgd : X.A.guards = some []) (F : FnOkG X.prog X.w X.K X.mg X.base CX k f fd ps sp) (hr : Room k X.A) (hg : Gl X x) (hm : X.mg x = some (.ref f)) (hk : PySem.W.keepIn X.K (.ref f) = true) (hb : Binds X.K fd ps ds) (hd : Vals dvs ds) (hx : Passes CX X E)
    (ha : PA X (e :: es) t) (hdb : (x == ("__debug__" : Str)) = false := by decide) (he : starEach (e :: es) X.env = (false, eval e X.env) :: starEach es X.env := by rfl) (hpl : (backTo pos (starEach es X.env)).any (·.1) = false := by rfl) :
    PE X (.Call (.Name x p) (e :: es) [] pos) (tCall sp dvs E t) := by
  refine ⟨fun pins s σ H Q I h => ?_⟩
  refine wpAny_Call_Name_kw (ld_glob I hg hm ?_ hdb)
  refine PySem.W.callWith_K (h₀ := X.base) I.ok.mod.kin hk (thn (ha.run pos pins s σ H _ I h) fun us s1 ⟨vs, H1, I1, r, q⟩ => ⟨I1.kIn, ?_⟩) he hpl
  have r2 : Vals (vs ++ dvs) (us ++ ds) := r.append hd
  have hl : (us ++ ds).length = ps.length := by rw [← r2.length]; exact F.few _ _ _ _ q
  refine wpAny_call (codeAny_mono (F.go X.stack s1 H1 ⟨us, []⟩ (us ++ ds) (vs ++ dvs) Q E hgd hr I1.env0 (hb s1 us I1.kIn hl) r2 q) fun r s' hq => ?_)
  cases r with
  | error e => exact hx pins σ H1 s1 e s' I1 hq
  | ok fl =>
    cases fl with
    | ret u => exact I1.after hq
    | next => exact False.elim hq
    | brk => exact False.elim hq
    | cont => exact False.elim hq
end
/-! ### names and orders: rows that tell every number once -/
def PrmI (ns : List Int) (n : Nat) : Prop := ns.Perm (upTo (n : Int))
theorem PrmI.len {ns : List Int} {n : Nat} (h : PrmI ns n) : ns.length = n := by
  rw [h.length_eq, upTo_length]
  omega
theorem PrmI.nd {ns : List Int} {n : Nat} (h : PrmI ns n) : ns.Nodup := h.nodup_iff.mpr (upTo_nd _)
theorem PrmI.mem {ns : List Int} {n : Nat} (h : PrmI ns n) {x : Int} : x ∈ ns ↔ 0 ≤ x ∧ x < n := by
  rw [h.mem_iff, upTo_mem]
theorem PrmI.refl {n : Nat} : PrmI (upTo (n : Int)) n := List.Perm.refl _
/-- what is at a place that there is; else itself -/
def nmF (ns : List Int) (x : Int) : Int := if 0 ≤ x ∧ x < ns.length then ns.getD x.toNat 0 else x
theorem nm_get {ns : List Int} {i : Nat} {v : Int} (h : ns[i]? = some v) : nmF ns (i : Int) = v := by
  have hl := (List.getElem?_eq_some_iff.mp h).1
  unfold nmF
  rw [if_pos (by omega), Int.toNat_natCast, List.getD_eq_getElem?_getD, h]
  rfl
theorem PrmI.bd {ns : List Int} {n : Nat} (h : PrmI ns n) {x : Int} (h0 : 0 ≤ x) (h1 : x < n) : ∃ v, ns[x.toNat]? = some v ∧ nmF ns x = v ∧ 0 ≤ v ∧ v < n := by
  have hl := h.len
  have e : ns[x.toNat]? = some ns[x.toNat] := List.getElem?_eq_getElem (by omega)
  have e2 := nm_get e
  rw [Int.toNat_of_nonneg h0] at e2
  have := h.mem.mp (List.getElem_mem (l := ns) (n := x.toNat) (by omega))
  exact ⟨_, e, e2, this⟩
theorem PrmI.at_ {ns : List Int} {n : Nat} (h : PrmI ns n) {x : Int} (h0 : 0 ≤ x) (h1 : x < n) : atI (ns.map V.int) x = some (.int (nmF ns x)) := by
  obtain ⟨v, e, e2, _⟩ := h.bd h0 h1
  obtain ⟨i, rfl⟩ := Int.eq_ofNat_of_zero_le h0
  rw [e2]
  refine atI_nat ?_
  rw [List.getElem?_map]
  rw [Int.toNat_natCast] at e
  rw [e]
  rfl
theorem PrmI.in_ {ns : List Int} {n : Nat} (h : PrmI ns n) {x : Int} (h0 : 0 ≤ x) (h1 : x < n) : 0 ≤ nmF ns x ∧ nmF ns x < n := by
  obtain ⟨v, _, e2, b⟩ := h.bd h0 h1
  rw [e2]
  exact b
theorem nm_out {ns : List Int} {n : Nat} (h : PrmI ns n) {x : Int} (c : ¬ (0 ≤ x ∧ x < n)) : nmF ns x = x := by
  unfold nmF
  rw [h.len, if_neg c]
theorem PrmI.inj {ns : List Int} {n : Nat} (h : PrmI ns n) {x y : Int} (e : nmF ns x = nmF ns y) : x = y := by
  by_cases cx : 0 ≤ x ∧ x < n
  · by_cases cy : 0 ≤ y ∧ y < n
    · obtain ⟨v, h1, h2, _⟩ := h.bd cx.1 cx.2
      obtain ⟨w, g1, g2, _⟩ := h.bd cy.1 cy.2
      rw [h2, g2] at e
      subst e
      have l1 := (List.getElem?_eq_some_iff.mp h1)
      have l2 := (List.getElem?_eq_some_iff.mp g1)
      obtain ⟨a1, a2⟩ := l1
      obtain ⟨b1, b2⟩ := l2
      have := (List.getElem_inj (h₀ := a1) (h₁ := b1) h.nd).mp (a2.trans b2.symm)
      omega
    · have b := h.in_ cx.1 cx.2
      rw [e, nm_out h cy] at b
      exact absurd b cy
  · by_cases cy : 0 ≤ y ∧ y < n
    · have b := h.in_ cy.1 cy.2
      rw [← e, nm_out h cx] at b
      exact absurd b cx
    · rw [nm_out h cx, nm_out h cy] at e
      exact e
/-- the row back -/
def backI (ns : List Int) (n : Nat) : List Int := (upTo (n : Int)).map fun j => (firstAt ns j : Int)
theorem nm_back {ns : List Int} {n : Nat} {x : Int} (h0 : 0 ≤ x) (h1 : x < n) : nmF (backI ns n) x = (firstAt ns x : Int) := by
  obtain ⟨i, rfl⟩ := Int.eq_ofNat_of_zero_le h0
  refine nm_get ?_
  unfold backI
  rw [List.getElem?_map, upTo_get' (by omega)]
  rfl
theorem back_nm {ns : List Int} {n : Nat} (h : PrmI ns n) {x : Int} (h0 : 0 ≤ x) (h1 : x < n) : nmF (backI ns n) (nmF ns x) = x := by
  obtain ⟨v, e, e2, b0, b1⟩ := h.bd h0 h1
  rw [e2, nm_back b0 b1, firstAt_at h.nd e]
  omega
theorem PrmI.of {ns : List Int} {n : Nat} (hl : ns.length = n) (nd : ns.Nodup) (hb : ∀ x ∈ ns, 0 ≤ x ∧ x < n) : PrmI ns n := by
  refine (List.perm_ext_iff_of_nodup nd (upTo_nd _)).mpr fun x => ⟨fun hx => upTo_mem.mpr (hb x hx), fun hx => ?_⟩
  by_cases c : x ∈ ns
  · exact c
  · have h1 := nd_le (m := (upTo (n : Int)).erase x) nd fun y hy => (List.mem_erase_of_ne (fun e : y = x => c (e ▸ hy))).mpr (upTo_mem.mpr (hb y hy))
    have h2 := List.length_erase_of_mem hx
    have h3 := upTo_length (n : Int)
    have h4 := List.length_pos_of_mem hx
    omega
theorem nd_map {α β : Type} {f : α → β} {l : List α} (h : l.Nodup) (hf : ∀ x ∈ l, ∀ y ∈ l, f x = f y → x = y) : (l.map f).Nodup := by
  rw [List.nodup_iff_pairwise_ne, List.pairwise_map]
  exact (List.pairwise_iff_forall_sublist).mpr fun {a b} hab => by
    have hn := List.Nodup.sublist hab h
    have ha := hab.subset (List.mem_cons_self (a := a) (l := [b]))
    have hb := hab.subset (List.mem_cons_of_mem a (List.mem_cons_self (a := b) (l := [])))
    intro e
    have := hf a ha b hb e
    subst this
    simp at hn
theorem back_prm {ns : List Int} {n : Nat} (h : PrmI ns n) : PrmI (backI ns n) n := by
  refine .of ?_ ?_ fun x hx => ?_
  · unfold backI
    rw [List.length_map, upTo_length]
    omega
  · refine nd_map (upTo_nd _) fun x hx y hy e => ?_
    have hx := h.mem.mpr (upTo_mem.mp hx)
    have hy := h.mem.mpr (upTo_mem.mp hy)
    exact (firstAt_inj hx hy).mp (by omega)
  · obtain ⟨j, hj, rfl⟩ := List.mem_map.mp hx
    have := firstAt_lt (h.mem.mpr (upTo_mem.mp hj))
    rw [h.len] at this
    omega
/-- one row after another -/
def overI (ms ns : List Int) : List Int := ns.map (nmF ms)
theorem over_nm {ms ns : List Int} {n : Nat} (h : PrmI ns n) {x : Int} (h0 : 0 ≤ x) (h1 : x < n) : nmF (overI ms ns) x = nmF ms (nmF ns x) := by
  obtain ⟨v, e, e2, b0, b1⟩ := h.bd h0 h1
  obtain ⟨i, rfl⟩ := Int.eq_ofNat_of_zero_le h0
  rw [e2]
  refine nm_get ?_
  unfold overI
  rw [List.getElem?_map]
  rw [Int.toNat_natCast] at e
  rw [e]
  rfl
theorem over_prm {ms ns : List Int} {n : Nat} (hm : PrmI ms n) (h : PrmI ns n) : PrmI (overI ms ns) n := by
  refine .of ?_ ?_ fun x hx => ?_
  · unfold overI
    rw [List.length_map, h.len]
  · exact nd_map h.nd fun x _ y _ e => hm.inj e
  · obtain ⟨j, hj, rfl⟩ := List.mem_map.mp hx
    obtain ⟨a, b⟩ := h.mem.mp hj
    exact hm.in_ a b
theorem over_upTo {ms ns : List Int} {n : Nat} (h : PrmI ns n) : (upTo (n : Int)).map (fun j => nmF ms (nmF ns j)) = overI ms ns := by
  refine List.ext_getElem? fun i => ?_
  unfold overI
  rw [List.getElem?_map, List.getElem?_map]
  by_cases c : i < n
  · have hi : i < ns.length := by rw [h.len]; exact c
    have e : ns[i]? = some ns[i] := List.getElem?_eq_getElem hi
    rw [upTo_get' c, e]
    show some (nmF ms (nmF ns (i : Int))) = some (nmF ms ns[i])
    rw [nm_get e]
  · rw [List.getElem?_eq_none (by rw [upTo_length]; omega), List.getElem?_eq_none (by rw [h.len]; omega)]
    rfl
theorem nm_upTo {n : Nat} (x : Int) : nmF (upTo (n : Int)) x = x := by
  by_cases c : 0 ≤ x ∧ x < n
  · obtain ⟨i, rfl⟩ := Int.eq_ofNat_of_zero_le c.1
    exact nm_get (upTo_get' (by omega))
  · exact nm_out .refl c
/-- swapping two places -/
theorem swap_perm : ∀ (l : List Int) {i j : Nat} {a b : Int}, l[i]? = some a → l[j]? = some b → ((l.set i b).set j a).Perm l := by
  intro l i j a b hi hj
  obtain ⟨h1, h2⟩ := List.getElem?_eq_some_iff.mp hi
  obtain ⟨g1, g2⟩ := List.getElem?_eq_some_iff.mp hj
  refine List.perm_iff_count.mpr fun x => ?_
  by_cases e : i = j
  · subst e
    have : a = b := by rw [← h2, ← g2]
    subst this
    rw [List.set_set, show l.set i a = l by rw [← h2]; exact List.set_getElem_self h1]
  · rw [List.count_set (by rw [List.length_set]; exact g1), List.count_set h1, List.getElem_set_ne e, h2, g2]
    have c1 : 0 < List.count a l := List.count_pos_iff.mpr (h2 ▸ List.getElem_mem h1)
    have c2 : 0 < List.count b l := List.count_pos_iff.mpr (g2 ▸ List.getElem_mem g1)
    by_cases ea : a = x
    · subst ea
      by_cases eb : b = a
      · subst eb
        simp
        omega
      · have : ¬ (b == a) = true := by simpa using eb
        simp [this, eb]
        omega
    · by_cases eb : b = x
      · subst eb
        have : ¬ (a == b) = true := by simpa using ea
        simp [this, ea]
      · simp [ea, eb]
theorem ins_perm (l : List Int) (i : Nat) (y : Int) : (l.take i ++ [y] ++ l.drop i).Perm (l ++ [y]) := by
  rw [List.append_assoc]
  refine (List.perm_append_comm.append_left _ |>.trans ?_)
  rw [← List.append_assoc, List.take_append_drop]
end FF
namespace FF
open PySem PySem.Spec PyProof.Rows L2
variable [LT]
/-! ### a web with its points renamed and its ties in another order -/
def tieAt (ts : List (Int × Int)) (i : Int) : Int × Int := ts.getD i.toNat (0, 0)
def renF (ns : List Int) (ts : List (Int × Int)) (ord : List Int) : List (Int × Int) := ord.map fun i => mvT (nmF ns) (tieAt ts i)
theorem tieAt_get {ts : List (Int × Int)} {i : Nat} {t : Int × Int} (h : ts[i]? = some t) : tieAt ts (i : Int) = t := by
  unfold tieAt
  rw [Int.toNat_natCast, List.getD_eq_getElem?_getD, h]
  rfl
theorem tieAt_in {ts : List (Int × Int)} {i : Int} (h0 : 0 ≤ i) (h1 : i < ts.length) : ts[i.toNat]? = some (tieAt ts i) ∧ tieAt ts i ∈ ts := by
  obtain ⟨j, rfl⟩ := Int.eq_ofNat_of_zero_le h0
  have e : ts[j]? = some ts[j] := List.getElem?_eq_getElem (by omega)
  rw [tieAt_get e, Int.toNat_natCast]
  exact ⟨e, List.getElem_mem _⟩
theorem ren_len {ns : List Int} {ts : List (Int × Int)} {ord : List Int} : (renF ns ts ord).length = ord.length := by
  unfold renF
  rw [List.length_map]
theorem ren_at {ns : List Int} {ts : List (Int × Int)} {ord : List Int} (ho : PrmI ord ts.length) {i : Int} (h0 : 0 ≤ i) (h1 : i < ts.length) : tieAt (renF ns ts ord) i = mvT (nmF ns) (tieAt ts (nmF ord i)) := by
  obtain ⟨v, e, e2, b0, b1⟩ := ho.bd h0 h1
  obtain ⟨j, rfl⟩ := Int.eq_ofNat_of_zero_le h0
  rw [e2]
  refine tieAt_get ?_
  unfold renF
  rw [List.getElem?_map]
  rw [Int.toNat_natCast] at e
  rw [e]
  rfl
theorem mv_key {f : Int → Int} {t : Int × Int} : (mvT f t = (f t.1, f t.2) ∧ f t.1 ≤ f t.2) ∨ (mvT f t = (f t.2, f t.1) ∧ f t.2 < f t.1) := by
  unfold mvT
  by_cases c : f t.2 < f t.1
  · rw [if_pos c, if_neg (by omega)]
    exact .inr ⟨rfl, c⟩
  · rw [if_neg c]
    by_cases d : f t.2 > f t.1
    · rw [if_pos d]
      exact .inl ⟨rfl, by omega⟩
    · rw [if_neg d]
      exact .inl ⟨by rw [show f t.1 = f t.2 by omega], by omega⟩
theorem mv_mv {f g : Int → Int} {t : Int × Int} : mvT g (mvT f t) = mvT (fun x => g (f x)) t := by
  rcases mv_key (f := f) (t := t) with ⟨e, _⟩ | ⟨e, _⟩
  · rw [e]
    rfl
  · rw [e]
    unfold mvT
    dsimp only
    by_cases c : g (f t.2) < g (f t.1)
    · rw [if_neg (by omega), if_pos c, if_pos c, if_neg (by omega)]
    · by_cases d : g (f t.1) < g (f t.2)
      · rw [if_pos d, if_neg (by omega), if_neg c, if_pos d]
      · rw [if_neg d, if_neg (by omega), if_neg c, if_neg (by omega)]
        have : g (f t.1) = g (f t.2) := by omega
        exact Prod.ext this.symm this.symm
theorem mv_congr {f g : Int → Int} {t : Int × Int} (h1 : f t.1 = g t.1) (h2 : f t.2 = g t.2) : mvT f t = mvT g t := by
  unfold mvT
  rw [h1, h2]
theorem mv_same {t : Int × Int} (h : t.1 < t.2) : mvT (fun x => x) t = t := by
  unfold mvT
  dsimp only
  rw [if_neg (by omega), if_pos (by omega)]
section
variable {n : Nat} {ns ord : List Int} {ts : List (Int × Int)}
theorem ren_ok (ok : TOk (n : Int) ts) (hn : PrmI ns n) (ho : PrmI ord ts.length) : TOk (n : Int) (renF ns ts ord) := fun u hu => by
  obtain ⟨i, hi, rfl⟩ := List.mem_map.mp hu
  obtain ⟨b0, b1⟩ := ho.mem.mp hi
  obtain ⟨_, hm⟩ := tieAt_in b0 b1
  obtain ⟨t0, t1, t2⟩ := ok _ hm
  obtain ⟨a0, a1⟩ := hn.in_ (x := (tieAt ts i).1) t0 (by omega)
  obtain ⟨c0, c1⟩ := hn.in_ (x := (tieAt ts i).2) (by omega) t2
  have ne : nmF ns (tieAt ts i).1 ≠ nmF ns (tieAt ts i).2 := fun e => by have := hn.inj e; omega
  rcases mv_key (f := nmF ns) (t := tieAt ts i) with ⟨e, h⟩ | ⟨e, h⟩
  · rw [e]
    dsimp only
    omega
  · rw [e]
    dsimp only
    omega
theorem ren_ren (ok : TOk (n : Int) ts) (hn : PrmI ns n) (ho : PrmI ord ts.length) {ms row : List Int} (hr : PrmI row ts.length) : renF ms (renF ns ts ord) row = renF (overI ms ns) ts (overI ord row) := by
  unfold renF overI
  rw [List.map_map]
  refine List.map_congr_left fun i hi => ?_
  obtain ⟨b0, b1⟩ := hr.mem.mp hi
  show mvT (nmF ms) (tieAt (renF ns ts ord) i) = mvT (nmF (overI ms ns)) (tieAt ts (nmF ord i))
  rw [ren_at ho b0 b1, mv_mv]
  obtain ⟨c0, c1⟩ := ho.in_ b0 b1
  obtain ⟨_, hm⟩ := tieAt_in c0 c1
  obtain ⟨t0, t1, t2⟩ := ok _ hm
  exact mv_congr (over_nm hn t0 (by omega)).symm (over_nm hn (by omega) t2).symm
theorem ren_id {ms row : List Int} (ok : TOk (n : Int) ts) (h1 : ∀ x : Int, 0 ≤ x → x < n → nmF ms x = x) (h2 : row = upTo (ts.length : Int)) : renF ms ts row = ts := by
  subst h2
  refine List.ext_getElem? fun i => ?_
  unfold renF
  rw [List.getElem?_map]
  by_cases c : i < ts.length
  · have e : ts[i]? = some ts[i] := List.getElem?_eq_getElem c
    rw [upTo_get' c, e]
    show some (mvT (nmF ms) (tieAt ts (i : Int))) = some ts[i]
    rw [tieAt_get e]
    obtain ⟨t0, t1, t2⟩ := ok _ (List.getElem_mem c)
    rw [mv_congr (g := fun x => x) (h1 _ t0 (by omega)) (h1 _ (by omega) t2), mv_same t1]
  · rw [List.getElem?_eq_none (by rw [upTo_length]; omega), List.getElem?_eq_none (by omega)]
    rfl
theorem over_back {m : Nat} {ord : List Int} (ho : PrmI ord m) : overI ord (backI ord m) = upTo (m : Int) := by
  unfold overI backI
  rw [List.map_map]
  conv => rhs; rw [← List.map_id (upTo (m : Int))]
  refine List.map_congr_left fun j hj => ?_
  exact nm_get (firstAt_get (ho.mem.mpr (upTo_mem.mp hj)))
theorem ren_back (ok : TOk (n : Int) ts) (hn : PrmI ns n) (ho : PrmI ord ts.length) : renF (backI ns n) (renF ns ts ord) (backI ord ts.length) = ts := by
  rw [ren_ren ok hn ho (back_prm ho)]
  exact ren_id ok (fun x h0 h1 => by rw [over_nm hn h0 h1]; exact back_nm hn h0 h1) (over_back ho)
theorem ren_same (ok : TOk (n : Int) ts) : renF (upTo (n : Int)) ts (upTo (ts.length : Int)) = ts := ren_id ok (fun x _ _ => nm_upTo x) rfl
/-! entries led -/
def ledL (ord : List Int) (ws : List V) : List V := ord.map fun i => ws.getD i.toNat .non
theorem led_get {ws : List V} {i : Nat} {w : V} (h : ws[i]? = some w) : ws.getD ((i : Int)).toNat .non = w := by
  rw [Int.toNat_natCast, List.getD_eq_getElem?_getD, h]
  rfl
theorem zip_upTo {α : Type} (d : α) (xs : List α) : (upTo (xs.length : Int)).map (fun i => xs.getD i.toNat d) = xs := by
  refine List.ext_getElem? fun i => ?_
  rw [List.getElem?_map]
  by_cases c : i < xs.length
  · rw [upTo_get' c, List.getElem?_eq_getElem c]
    show some (xs.getD ((i : Int)).toNat d) = _
    rw [Int.toNat_natCast, List.getD_eq_getElem?_getD, List.getElem?_eq_getElem c]
    rfl
  · rw [List.getElem?_eq_none (by rw [upTo_length]; omega), List.getElem?_eq_none (by omega)]
    rfl
theorem ledL_same {ws : List V} : ledL (upTo (ws.length : Int)) ws = ws := zip_upTo _ _
theorem ledL_perm {m : Nat} (ho : PrmI ord m) {ws : List V} (hl : ws.length = m) : (ledL ord ws).Perm ws := by
  have := ho.map fun i => ws.getD i.toNat V.non
  rw [← hl, zip_upTo] at this
  exact this
theorem led_zip {ord : List Int} {ns : List Int} {ts : List (Int × Int)} {ws : List V} (f : Int) : layerOf (renF ns ts ord) (ledL ord ws) f = ((ord.map fun i => (tieAt ts i, ws.getD i.toNat V.non)).filter fun p => decide (p.2 = V.int f)).map fun p => mvT (nmF ns) p.1 := by
  unfold layerOf renF ledL
  induction ord with
  | nil => rfl
  | cons i ord ih =>
    rw [List.map_cons, List.map_cons, List.zip_cons_cons, List.filter_cons, List.map_cons, List.filter_cons]
    dsimp only
    by_cases c : decide (ws.getD i.toNat V.non = V.int f) = true
    · rw [if_pos c, if_pos c, List.map_cons, List.map_cons, ih]
    · rw [if_neg c, if_neg c, ih]
theorem led_layer (hn : PrmI ns n) (ho : PrmI ord ts.length) {ws : List V} (hl : ws.length = ts.length) (f : Int) : ringlessF (fun x => x) (layerOf (renF ns ts ord) (ledL ord ws) f) = ringlessF (fun x => x) (layerOf ts ws f) := by
  rw [led_zip]
  have e : (ts.zip ws) = (upTo (ts.length : Int)).map fun i => (tieAt ts i, ws.getD i.toNat V.non) := by
    refine List.ext_getElem? fun i => ?_
    rw [List.getElem?_map]
    by_cases c : i < ts.length
    · have hw : i < ws.length := by omega
      have hz : (ts.zip ws)[i]? = some (ts[i], ws[i]) := List.getElem?_zip_eq_some.mpr ⟨List.getElem?_eq_getElem c, List.getElem?_eq_getElem hw⟩
      rw [upTo_get' c, hz]
      show _ = some (tieAt ts (i : Int), ws.getD ((i : Int)).toNat V.non)
      rw [tieAt_get (List.getElem?_eq_getElem c), led_get (List.getElem?_eq_getElem (by omega))]
    · rw [List.getElem?_eq_none (by rw [List.length_zip]; omega), List.getElem?_eq_none (by rw [upTo_length]; omega)]
      rfl
  have p1 := ((ho.map fun i => (tieAt ts i, ws.getD i.toNat V.non)).filter fun p => decide (p.2 = V.int f)).map fun p => mvT (nmF ns) p.1
  rw [← e] at p1
  rw [ringlessF_perm p1]
  have e2 : ((ts.zip ws).filter fun p => decide (p.2 = V.int f)).map (fun p => mvT (nmF ns) p.1) = (layerOf ts ws f).map (mvT (nmF ns)) := by
    unfold layerOf
    rw [List.map_map]
    rfl
  rw [e2, ringlessF_mv]
  exact ringlessF_ker _ fun x y => ⟨fun h => hn.inj h, fun h => by rw [h]⟩
theorem led_lay (hn : PrmI ns n) (ho : PrmI ord ts.length) {ws : List V} (hl : ws.length = ts.length) (k : Int) : layO (renF ns ts ord) k (some (ledL ord ws)) = layO ts k (some ws) := by
  have pm := ledL_perm ho hl
  have e1 : (ledL ord ws).length = (renF ns ts ord).length := by
    rw [ren_len]
    unfold ledL
    rw [List.length_map]
  have al : ∀ p : V → Bool, (ledL ord ws).all p = ws.all p := fun p => by
    rw [Bool.eq_iff_iff, List.all_eq_true, List.all_eq_true]
    exact ⟨fun h x hx => h x (pm.mem_iff.mpr hx), fun h x hx => h x (pm.mem_iff.mp hx)⟩
  have et : treeB (renF ns ts ord) (ledL ord ws) = treeB ts ws := funext fun x => by
    cases x with
    | int f => exact led_layer hn ho hl f
    | _ => rfl
  show ((decide ((ledL ord ws).length = (renF ns ts ord).length) && (ledL ord ws).all (okE k)) && (ledL ord ws).all (treeB (renF ns ts ord) (ledL ord ws))) = ((decide (ws.length = ts.length) && ws.all (okE k)) && ws.all (treeB ts ws))
  rw [decide_eq_true e1, decide_eq_true hl, al, al, et]
end
end FF
namespace FF
open PySem PySem.Spec PyProof.Rows L2
variable [LT]
def top (i : Nat) : Stmt := PySem.Challenge.pw_fewforests_k74_renamed_and_led.main.body.getD i (.Pass ⟨0, 0, 0, 0⟩)
abbrev s_is_number : Stmt := top 4
abbrev s_leader_of : Stmt := top 5
abbrev s_join_points : Stmt := top 6
abbrev s_check : Stmt := top 10
abbrev s_is_tie : Stmt := top 11
abbrev s_ringless : Stmt := top 12
abbrev s_renamed_web : Stmt := top 14
abbrev s_led_laying : Stmt := top 15
abbrev s_tie_of : Stmt := top 16
abbrev s_right_laying : Stmt := top 18
abbrev s_ties_by_forest : Stmt := top 19
abbrev s_law_mixed : Stmt := top 21
abbrev s_law_deck : Stmt := top 22
abbrev s_law_next : Stmt := top 23
abbrev s_law_tie : Stmt := top 24
abbrev s_law_any_web : Stmt := top 25
abbrev s_law_round : Stmt := top 26
abbrev s_law_full : Stmt := top 27
abbrev s_law_tree : Stmt := top 28
abbrev s_law_web : Stmt := top 29
abbrev s_law_heads : Stmt := top 30
abbrev s_law_is_forest : Stmt := top 31
abbrev s_law_laying : Stmt := top 32
abbrev s_law_names : Stmt := top 33
abbrev s_law_order_of : Stmt := top 34
abbrev s_law_renamed : Stmt := top 35
abbrev s_law_back : Stmt := top 36
abbrev s_law_good : Stmt := top 37
abbrev s_law_led : Stmt := top 38
abbrev s_law : Stmt := top 39

/-! ### built-ins and constants of the text -/
structure Blt (mg : Str → Option Value) : Prop where
  b_ValueError : mg "ValueError" = none
  b_all : mg "all" = none
  b_bool : mg "bool" = none
  b_enumerate : mg "enumerate" = none
  b_int : mg "int" = none
  b_isinstance : mg "isinstance" = none
  b_len : mg "len" = none
  b_list : mg "list" = none
  b_max : mg "max" = none
  b_min : mg "min" = none
  b_range : mg "range" = none
  b_reversed : mg "reversed" = none
  b_set : mg "set" = none
  b_str : mg "str" = none
  b_tuple : mg "tuple" = none
  c_MOST_POINTS : ∃ t, mg "MOST_POINTS" = some (.int 40 t)
  c_MOST_TIES : ∃ t, mg "MOST_TIES" = some (.int 120 t)
def xfs : List Xf := [.glo "WebsError", .glo "NoWeb", .exc "NoWeb"]
def Tabs (tb : List Addr) (H : Hp) : Prop := ∀ P ∈ tb, TabG H P
theorem Tabs.kx {tb : List Addr} {S : Addr → Prop} {H H1 : Hp} (h : Tabs tb H) (k : Kx S H H1) : Tabs tb H1 := fun P hP => k.tab P (h P hP)
theorem Tabs.dk {tb : List Addr} {p : Addr} {H H1 : Hp} (h : Tabs tb H) (k : Dk p H H1) : Tabs tb H1 := h.kx k.k
theorem Tabs.new {tb : List Addr} {p : Addr} {H : Hp} {o : HO} (h : Tabs tb H) (k : H p = none) : Tabs tb (upd H p o) := h.kx (S := fun _ => False) (Ke.new k)
abbrev nm_is_number : List Str := ["thing", "least", "most"]
theorem sc_is_number : FnScope nm_is_number ["thing", "least", "most"] (defScope s_is_number) := ⟨rfl, rfl, rfl, by decide +kernel, rfl, by decide +kernel, by decide +kernel⟩
/-! ### is_number -/
def sp_is_number (_ : PySem.W.Frag) (_ : List Addr) : Sp := fun vs H Q _ => ∃ (v : V) (lo hi : Int) (n : String), vs = [v, .int lo, .int hi] ∧ TyN H v n ∧ Q (.bl (isNum v lo hi)) H
abbrev nm_leader_of : List Str := ["leaders", "point"]
theorem sc_leader_of : FnScope nm_leader_of ["leaders", "point"] (defScope s_leader_of) := ⟨rfl, rfl, rfl, by decide +kernel, rfl, by decide +kernel, by decide +kernel⟩
/-! ### leader_of -/
def sp_leader_of (_ : PySem.W.Frag) (_ : List Addr) : Sp := fun vs H Q _ => ∃ (p : Addr) (ls : List Int) (n : Int) (r : Int → Int) (d : Int → Nat) (x : Int), vs = [.ref p, .int x] ∧ H p = some (.lst (ls.map V.int)) ∧ UF n ls r d ∧ 0 ≤ x ∧ x < n ∧
  ∀ ls', UF n ls' r d → Q (.int (r x)) (upd H p (.lst (ls'.map V.int)))
abbrev nm_join_points : List Str := ["leaders", "a", "b", "first", "second"]
theorem sc_join_points : FnScope nm_join_points ["leaders", "a", "b"] (defScope s_join_points) := ⟨rfl, rfl, rfl, by decide +kernel, rfl, by decide +kernel, by decide +kernel⟩
/-! ### join_points -/
def sp_join_points (_ : PySem.W.Frag) (_ : List Addr) : Sp := fun vs H Q _ => ∃ (p : Addr) (ls : List Int) (n : Int) (r : Int → Int) (d : Int → Nat) (a b : Int), vs = [.ref p, .int a, .int b] ∧ H p = some (.lst (ls.map V.int)) ∧ UF n ls r d ∧ 0 ≤ a ∧ a < n ∧ 0 ≤ b ∧ b < n ∧
  ∀ ls' d', UF n ls' (rstep r (a, b)) d' → Q (.bl (!decide (r a = r b))) (upd H p (.lst (ls'.map V.int)))
abbrev nm_is_tie : List Str := ["points", "thing", "a", "b"]
theorem sc_is_tie : FnScope nm_is_tie ["points", "thing"] (defScope s_is_tie) := ⟨rfl, rfl, rfl, by decide +kernel, rfl, by decide +kernel, by decide +kernel⟩
/-! ### is_tie -/
def sp_is_tie (_ : PySem.W.Frag) (_ : List Addr) : Sp := fun vs H Q _ => ∃ (th : V) (n : Int) (o : Option (List V)), vs = [.int n, th] ∧ Tpl H th o ∧ Q (.bl (tieO n o)) H
abbrev nm_check : List Str := ["thing", "points", "ties"]
theorem sc_check : FnScope nm_check ["thing"] (defScope s_check) := ⟨rfl, rfl, rfl, by decide +kernel, rfl, by decide +kernel, by decide +kernel⟩
theorem gnd_check_0 : (["points", "tie"] : List Str).Nodup := by decide +kernel
/-! ### check -/
def sp_check (K : PySem.W.Frag) (tb : List Addr) : Sp := fun vs H Q E => ∃ (v : V) (b : Bool), vs = [v] ∧ WT H v b ∧ Tabs tb H ∧ (b = true → ∀ H', Ke H H' → Q (.bl true) H') ∧ (b = false → ∀ H', Ke H H' → E (.ref (He.ga K "NoWeb")) none H')
abbrev nm_ringless : List Str := ["web", "ties", "leaders", "number", "a", "b"]
theorem sc_ringless : FnScope nm_ringless ["web", "ties"] (defScope s_ringless) := ⟨rfl, rfl, rfl, by decide +kernel, rfl, by decide +kernel, by decide +kernel⟩
/-! ### ringless -/
def sp_ringless (_ : PySem.W.Frag) (_ : List Addr) : Sp := fun vs H Q _ => ∃ (v : V) (n : Int) (ts : List (Int × Int)) (u : Addr) (ms : List Int), vs = [v, .ref u] ∧ Web H v n ts ∧ (H u = some (.lst (ms.map V.int)) ∨ H u = some (.tup (ms.map V.int))) ∧ TOk n ts ∧ 0 ≤ n ∧ n ≤ 1000 ∧ (∀ m ∈ ms, 0 ≤ m ∧ m < ts.length) ∧
  ∀ H', Ke H H' → Q (.bl (ringlessF (fun x => x) (pick ts ms))) H'
abbrev nm_tie_of : List Str := ["a", "b"]
theorem sc_tie_of : FnScope nm_tie_of ["a", "b"] (defScope s_tie_of) := ⟨rfl, rfl, rfl, by decide +kernel, rfl, by decide +kernel, by decide +kernel⟩
/-! ### tie_of -/
def sp_tie_of (_ : PySem.W.Frag) (_ : List Addr) : Sp := fun vs H Q _ => ∃ (a b : Int), vs = [.int a, .int b] ∧
  ∀ p, H p = none → Q (.ref p) (upd H p (.tup [.int (if b < a then b else a), .int (if b > a then b else a)]))
abbrev nm_renamed_web : List Str := ["web", "names", "order", "points", "ties"]
theorem sc_renamed_web : FnScope nm_renamed_web ["web", "names", "order"] (defScope s_renamed_web) := ⟨rfl, rfl, rfl, by decide +kernel, rfl, by decide +kernel, by decide +kernel⟩
theorem gnd_renamed_web_0 : (["names", "ties", "number"] : List Str).Nodup := by decide +kernel
/-! ### renamed_web -/
def sp_renamed_web (K : PySem.W.Frag) (tb : List Addr) : Sp := fun vs H Q _ => ∃ (v : V) (n : Nat) (ts : List (Int × Int)) (a : Addr) (ns : List Int) (b : Addr) (ord : List Int), vs = [v, .ref a, .ref b] ∧ Web H v (n : Int) ts ∧ TOk (n : Int) ts ∧ 1 ≤ n ∧ n ≤ 40 ∧ ts.length ≤ 120 ∧ SqT K H a (ns.map V.int) ∧ PrmI ns n ∧ SqT K H b (ord.map V.int) ∧ PrmI ord ts.length ∧ Tabs tb H ∧
  ∀ H' v', Ke H H' → Web H' v' (n : Int) (renF ns ts ord) → Q v' H'
abbrev nm_led_laying : List Str := ["laying", "order"]
theorem sc_led_laying : FnScope nm_led_laying ["laying", "order"] (defScope s_led_laying) := ⟨rfl, rfl, rfl, by decide +kernel, rfl, by decide +kernel, by decide +kernel⟩
theorem gnd_led_laying_0 : (["laying", "number"] : List Str).Nodup := by decide +kernel
/-! ### led_laying -/
def sp_led_laying (K : PySem.W.Frag) (tb : List Addr) : Sp := fun vs H Q _ => ∃ (a : Addr) (ws : List V) (b : Addr) (ord : List Int), vs = [.ref a, .ref b] ∧ H a = some (.tup ws) ∧ SqT K H b (ord.map V.int) ∧ PrmI ord ws.length ∧ ws.length ≤ 120 ∧ Tabs tb H ∧
  ∀ H' u, Ke H H' → H u = none → H' u = some (.tup (ledL ord ws)) → Q (.ref u) H'
abbrev nm_ties_by_forest : List Str := ["laying", "forests", "number", "forest"]
theorem sc_ties_by_forest : FnScope nm_ties_by_forest ["laying"] (defScope s_ties_by_forest) := ⟨rfl, rfl, rfl, by decide +kernel, rfl, by decide +kernel, by decide +kernel⟩
/-! ### ties_by_forest -/
def sp_ties_by_forest (_ : PySem.W.Frag) (_ : List Addr) : Sp := fun vs H Q _ => ∃ (u : Addr) (ws : List V), vs = [.ref u] ∧ H u = some (.tup ws) ∧ (∀ x ∈ ws, IsO x) ∧ ws.length ≤ 1000 ∧
  ∀ H' d (fl : List (Int × Addr)), Ke H H' → H d = none → H' d = some (.dK (kvF fl)) → Byf H' ws fl → Q (.ref d) H'
abbrev nm_right_laying : List Str := ["web", "k", "thing", "forests"]
theorem sc_right_laying : FnScope nm_right_laying ["web", "k", "thing"] (defScope s_right_laying) := ⟨rfl, rfl, rfl, by decide +kernel, rfl, by decide +kernel, by decide +kernel⟩
theorem gnd_right_laying_0 : (["k", "entry"] : List Str).Nodup := by decide +kernel
theorem gnd_right_laying_1 : (["web", "numbers"] : List Str).Nodup := by decide +kernel
/-! ### right_laying -/
def sp_right_laying (_ : PySem.W.Frag) (tb : List Addr) : Sp := fun vs H Q _ => ∃ (v t : V) (n : Int) (ts : List (Int × Int)) (k : Int) (o : Option (List V)), vs = [v, .int k, t] ∧ Web H v n ts ∧ Tpl H t o ∧ TOk n ts ∧ 0 ≤ n ∧ n ≤ 1000 ∧ ts.length ≤ 1000 ∧ Tabs tb H ∧
  ∀ H', Ke H H' → Q (.bl (layO ts k o)) H'
abbrev nm__law_mixed : List Str := ["_law_cell", "_law_k", "_law_number"]
theorem sc__law_mixed : FnScope nm__law_mixed ["_law_cell", "_law_k"] (defScope s_law_mixed) := ⟨rfl, rfl, rfl, by decide +kernel, rfl, by decide +kernel, by decide +kernel⟩
/-! ### _law_mixed -/
def sp__law_mixed (_ : PySem.W.Frag) (_ : List Addr) : Sp := fun vs H Q _ => ∃ c k : Int, vs = [.int c, .int k] ∧ 0 ≤ k ∧ k < 1000000 ∧ ∀ r : Int, 0 ≤ r → Q (.int r) H
abbrev nm__law_deck : List Str := ["_law_script", "_law_many", "_law_own", "_law_cell", "_law_rest", "_law_deck_here", "_law_k", "_law_at"]
theorem sc__law_deck : FnScope nm__law_deck ["_law_script", "_law_many"] (defScope s_law_deck) := ⟨rfl, rfl, rfl, by decide +kernel, rfl, by decide +kernel, by decide +kernel⟩
/-! ### _law_deck -/
def sp__law_deck (K : PySem.W.Frag) (_ : List Addr) : Sp := fun vs H Q _ => ∃ (a : Addr) (ns : List Int) (n : Int), vs = [.ref a, .int n] ∧ SqL K H a (ns.map V.int) ∧ ns.length ≤ 63 ∧ 0 ≤ n ∧ n ≤ 5000 ∧
  ∀ p H', H p = none → Ke H H' → Deck H' p → Q (.ref p) H'
abbrev nm__law_next : List Str := ["_law_deck_here"]
theorem sc__law_next : FnScope nm__law_next ["_law_deck_here"] (defScope s_law_next) := ⟨rfl, rfl, rfl, by decide +kernel, rfl, by decide +kernel, by decide +kernel⟩
/-! ### _law_next -/
def sp__law_next (_ : PySem.W.Frag) (_ : List Addr) : Sp := fun vs H Q _ => ∃ p : Addr, vs = [.ref p] ∧ Deck H p ∧ ∀ (r : Int) (H' : Hp), 0 ≤ r → r < 1000 → Dk p H H' → Q (.int r) H'
abbrev nm__law_tie : List Str := ["_law_deck_here", "_law_points", "_law_a", "_law_b"]
theorem sc__law_tie : FnScope nm__law_tie ["_law_deck_here", "_law_points"] (defScope s_law_tie) := ⟨rfl, rfl, rfl, by decide +kernel, rfl, by decide +kernel, by decide +kernel⟩
/-! ### _law_tie -/
def sp__law_tie (_ : PySem.W.Frag) (_ : List Addr) : Sp := fun vs H Q _ => ∃ (p : Addr) (n : Int), vs = [.ref p, .int n] ∧ Deck H p ∧ 2 ≤ n ∧
  ∀ (a b : Int) (t : Addr) (H1 : Hp), 0 ≤ a → a < b → b < n → Dk p H H1 → H1 t = none → Q (.ref t) (upd H1 t (.tup [.int a, .int b]))
abbrev nm__law_any_web : List Str := ["_law_deck_here", "_law_points", "_law_most", "_law_ties", "_law_k"]
theorem sc__law_any_web : FnScope nm__law_any_web ["_law_deck_here", "_law_points", "_law_most"] (defScope s_law_any_web) := ⟨rfl, rfl, rfl, by decide +kernel, rfl, by decide +kernel, by decide +kernel⟩
/-! ### _law_any_web -/
def sp__law_any_web (_ : PySem.W.Frag) (_ : List Addr) : Sp := fun vs H Q _ => ∃ (p : Addr) (n m : Int), vs = [.ref p, .int n, .int m] ∧ Deck H p ∧ 1 ≤ n ∧ n ≤ 1000 ∧ 0 ≤ m ∧ m ≤ 1000 ∧
  ∀ (H' : Hp) (v : V) (ts : List (Int × Int)), Dk p H H' → Web H' v n ts → (ts.length : Int) ≤ m → TOk n ts → (n = 1 → ts = []) → Q v H'
abbrev nm__law_round : List Str := ["_law_points", "_law_k"]
theorem sc__law_round : FnScope nm__law_round ["_law_points"] (defScope s_law_round) := ⟨rfl, rfl, rfl, by decide +kernel, rfl, by decide +kernel, by decide +kernel⟩
/-! ### _law_round -/
def sp__law_round (_ : PySem.W.Frag) (_ : List Addr) : Sp := fun vs H Q _ => ∃ n : Int, vs = [.int n] ∧ 2 ≤ n ∧ n ≤ 1000 ∧
  ∀ (H' : Hp) (l : Addr) (ts : List (Int × Int)), Ke H H' → H l = none → TL H' l ts → (ts.length : Int) ≤ n → TOk n ts → Q (.ref l) H'
abbrev nm__law_full : List Str := ["_law_points", "_law_found", "_law_b", "_law_a"]
theorem sc__law_full : FnScope nm__law_full ["_law_points"] (defScope s_law_full) := ⟨rfl, rfl, rfl, by decide +kernel, rfl, by decide +kernel, by decide +kernel⟩
/-! ### _law_full -/
def sp__law_full (_ : PySem.W.Frag) (_ : List Addr) : Sp := fun vs H Q _ => ∃ n : Int, vs = [.int n] ∧ 0 ≤ n ∧ n ≤ 100 ∧
  ∀ (H' : Hp) (l : Addr) (ts : List (Int × Int)), Ke H H' → H l = none → TL H' l ts → (ts.length : Int) ≤ 10000 → TOk n ts → Q (.ref l) H'
abbrev nm__law_tree : List Str := ["_law_deck_here", "_law_points", "_law_k"]
theorem sc__law_tree : FnScope nm__law_tree ["_law_deck_here", "_law_points"] (defScope s_law_tree) := ⟨rfl, rfl, rfl, by decide +kernel, rfl, by decide +kernel, by decide +kernel⟩
/-! ### _law_tree -/
def sp__law_tree (_ : PySem.W.Frag) (_ : List Addr) : Sp := fun vs H Q _ => ∃ (p : Addr) (n : Int), vs = [.ref p, .int n] ∧ Deck H p ∧ 1 ≤ n ∧ n ≤ 1000 ∧
  ∀ (H' : Hp) (l : Addr) (ts : List (Int × Int)), Dk p H H' → H l = none → TL H' l ts → (ts.length : Int) ≤ n → TOk n ts → Q (.ref l) H'
abbrev nm__law_web : List Str := ["_law_deck_here", "_law_points", "_law_most", "_law_sort", "_law_size", "_law_more", "_law_ties", "_law_turn"]
theorem sc__law_web : FnScope nm__law_web ["_law_deck_here", "_law_points", "_law_most"] (defScope s_law_web) := ⟨rfl, rfl, rfl, by decide +kernel, rfl, by decide +kernel, by decide +kernel⟩
/-! ### _law_web -/
def sp__law_web (_ : PySem.W.Frag) (_ : List Addr) : Sp := fun vs H Q _ => ∃ (p : Addr) (M m : Int), vs = [.ref p, .int M, .int m] ∧ Deck H p ∧ 1 ≤ M ∧ M ≤ 100 ∧ 0 ≤ m ∧ m ≤ 1000 ∧
  ∀ (H' : Hp) (v : V) (n : Int) (ts : List (Int × Int)), Dk p H H' → Web H' v n ts → 1 ≤ n → n ≤ M → (ts.length : Int) ≤ m → TOk n ts → Q v H'
abbrev nm__law_heads : List Str := ["_law_points", "_law_ties", "_law_found", "_law_a", "_law_b", "_law_one", "_law_other", "_law_head"]
theorem sc__law_heads : FnScope nm__law_heads ["_law_points", "_law_ties"] (defScope s_law_heads) := ⟨rfl, rfl, rfl, by decide +kernel, rfl, by decide +kernel, by decide +kernel⟩
/-! ### _law_heads -/
def sp__law_heads (_ : PySem.W.Frag) (_ : List Addr) : Sp := fun vs H Q _ => ∃ (n : Int) (u : Addr) (rs : List V) (ts : List (Int × Int)), vs = [.int n, .ref u] ∧ H u = some (.lst rs) ∧ Ties H rs ts ∧ TOk n ts ∧ 0 ≤ n ∧ n ≤ 1000 ∧
  ∀ l H', Ke H H' → H' l = some (.lst ((headsF (upTo n) ts).map V.int)) → Q (.ref l) H'
abbrev nm__law_is_forest : List Str := ["_law_points", "_law_ties"]
theorem sc__law_is_forest : FnScope nm__law_is_forest ["_law_points", "_law_ties"] (defScope s_law_is_forest) := ⟨rfl, rfl, rfl, by decide +kernel, rfl, by decide +kernel, by decide +kernel⟩
/-! ### _law_is_forest -/
def sp__law_is_forest (_ : PySem.W.Frag) (_ : List Addr) : Sp := fun vs H Q _ => ∃ (n : Int) (u : Addr) (rs : List V) (ts : List (Int × Int)), vs = [.int n, .ref u] ∧ H u = some (.lst rs) ∧ Ties H rs ts ∧ TOk n ts ∧ 0 ≤ n ∧ n ≤ 1000 ∧
  ∀ H', Ke H H' → Q (.bl (ringlessF (fun x => x) ts)) H'
abbrev nm__law_laying : List Str := ["_law_deck_here", "_law_web_here", "_law_layers", "_law_found", "_law_number", "_law_tie_here", "_law_turn", "_law_places", "_law_k", "_law_other", "_law_free"]
theorem sc__law_laying : FnScope nm__law_laying ["_law_deck_here", "_law_web_here"] (defScope s_law_laying) := ⟨rfl, rfl, rfl, by decide +kernel, rfl, by decide +kernel, by decide +kernel⟩
def csc__law_laying_6_20 : Scope := { kind := .function, names := [(".0", .local), ("_law_k", .local), ("_law_is_forest", .globalImplicit), ("_law_layers", .free), ("_law_tie_here", .free), ("_law_web_here", .free)], isGenerator := false, isCoroutine := false, more := [] }
/-! ### _law_laying -/
def sp__law_laying (_ : PySem.W.Frag) (_ : List Addr) : Sp := fun vs H Q _ => ∃ (p : Addr) (v : V) (n : Int) (ts : List (Int × Int)), vs = [.ref p, v] ∧ Deck H p ∧ Web H v n ts ∧ TOk n ts ∧ 0 ≤ n ∧ n ≤ 1000 ∧ ts.length ≤ 1000 ∧
  ∀ H' u c (m : Int) ws, Dk p H H' → H u = none → H c = none → H' u = some (.tup [.int m, .ref c]) → H' c = some (.tup ws) → 0 ≤ m → m ≤ ts.length → Laid ts m ws → Q (.ref u) H'
abbrev nm__law_names : List Str := ["_law_deck_here", "_law_points", "_law_names_here", "_law_j", "_law_other"]
theorem sc__law_names : FnScope nm__law_names ["_law_deck_here", "_law_points"] (defScope s_law_names) := ⟨rfl, rfl, rfl, by decide +kernel, rfl, by decide +kernel, by decide +kernel⟩
/-! ### _law_names -/
def sp__law_names (_ : PySem.W.Frag) (_ : List Addr) : Sp := fun vs H Q _ => ∃ (p : Addr) (n : Nat), vs = [.ref p, .int (n : Int)] ∧ Deck H p ∧ 1 ≤ n ∧ n ≤ 40 ∧
  ∀ H' u ns, Dk p H H' → H u = none → TF H' u (ns.map V.int) → PrmI ns n → Q (.ref u) H'
abbrev nm__law_order_of : List Str := ["_law_deck_here", "_law_many", "_law_order", "_law_tie_here"]
theorem sc__law_order_of : FnScope nm__law_order_of ["_law_deck_here", "_law_many"] (defScope s_law_order_of) := ⟨rfl, rfl, rfl, by decide +kernel, rfl, by decide +kernel, by decide +kernel⟩
/-! ### _law_order_of -/
def sp__law_order_of (_ : PySem.W.Frag) (_ : List Addr) : Sp := fun vs H Q _ => ∃ (p : Addr) (n : Nat), vs = [.ref p, .int (n : Int)] ∧ Deck H p ∧ n ≤ 120 ∧
  ∀ H' u ns, Dk p H H' → H u = none → TF H' u (ns.map V.int) → PrmI ns n → Q (.ref u) H'
abbrev nm__law_renamed : List Str := ["_law_web_here", "_law_names_here", "_law_order", "_law_tie_here", "_law_ties"]
theorem sc__law_renamed : FnScope nm__law_renamed ["_law_web_here", "_law_names_here", "_law_order"] (defScope s_law_renamed) := ⟨rfl, rfl, rfl, by decide +kernel, rfl, by decide +kernel, by decide +kernel⟩
/-! ### _law_renamed -/
def sp__law_renamed (K : PySem.W.Frag) (_ : List Addr) : Sp := fun vs H Q _ => ∃ (v : V) (n : Nat) (ts : List (Int × Int)) (a : Addr) (ns : List Int) (b : Addr) (ord : List Int), vs = [v, .ref a, .ref b] ∧ Web H v (n : Int) ts ∧ TOk (n : Int) ts ∧ 1 ≤ n ∧ n ≤ 40 ∧ ts.length ≤ 120 ∧ SqT K H a (ns.map V.int) ∧ PrmI ns n ∧ SqT K H b (ord.map V.int) ∧ PrmI ord ts.length ∧
  ∀ H' v', Ke H H' → Web H' v' (n : Int) (renF ns ts ord) → Q v' H'
abbrev nm__law_back : List Str := ["_law_row", "_law_j"]
theorem sc__law_back : FnScope nm__law_back ["_law_row"] (defScope s_law_back) := ⟨rfl, rfl, rfl, by decide +kernel, rfl, by decide +kernel, by decide +kernel⟩
/-! ### _law_back -/
def sp__law_back (_ : PySem.W.Frag) (_ : List Addr) : Sp := fun vs H Q _ => ∃ (a : Addr) (ns : List Int) (n : Nat), vs = [.ref a] ∧ TF H a (ns.map V.int) ∧ PrmI ns n ∧ n ≤ 120 ∧
  ∀ H' u, Ke H H' → H u = none → H' u = some (.tup ((backI ns n).map V.int)) → Q (.ref u) H'
abbrev nm__law_good : List Str := ["_law_deck_here", "_law_web_here", "_law_names_here", "_law_order", "_law_kept", "_law_other", "_law_more", "_law_row", "_law_j", "_law_tie_here", "_law_once", "_law_same"]
theorem sc__law_good : FnScope nm__law_good ["_law_deck_here", "_law_web_here"] (defScope s_law_good) := ⟨rfl, rfl, rfl, by decide +kernel, rfl, by decide +kernel, by decide +kernel⟩
/-! ### _law_good -/
def sp__law_good (_ : PySem.W.Frag) (tb : List Addr) : Sp := fun vs H Q _ => ∃ (p : Addr) (v : V) (n : Nat) (ts : List (Int × Int)), vs = [.ref p, v] ∧ Deck H p ∧ Web H v (n : Int) ts ∧ TOk (n : Int) ts ∧ 1 ≤ n ∧ n ≤ 40 ∧ ts.length ≤ 120 ∧ Tabs tb H ∧
  ∀ H', Dk p H H' → Q (.bl true) H'
abbrev nm__law_led : List Str := ["_law_deck_here", "_law_web_here", "_law_names_here", "_law_order", "_law_k", "_law_laying_here", "_law_one", "_law_bent", "_law_led_here", "_law_tie_here"]
theorem sc__law_led : FnScope nm__law_led ["_law_deck_here", "_law_web_here"] (defScope s_law_led) := ⟨rfl, rfl, rfl, by decide +kernel, rfl, by decide +kernel, by decide +kernel⟩
/-! ### _law_led -/
def sp__law_led (_ : PySem.W.Frag) (tb : List Addr) : Sp := fun vs H Q _ => ∃ (p : Addr) (v : V) (n : Nat) (ts : List (Int × Int)), vs = [.ref p, v] ∧ Deck H p ∧ Web H v (n : Int) ts ∧ TOk (n : Int) ts ∧ 1 ≤ n ∧ n ≤ 40 ∧ ts.length ≤ 120 ∧ Tabs tb H ∧
  ∀ H', Dk p H H' → Q (.bl true) H'
abbrev nm_law : List Str := ["_law_script", "_law_deck_here", "_law_turn", "_law_web_here", "_law_j", "_law_great"]
theorem sc_law : FnScope nm_law ["_law_script"] (defScope s_law) := ⟨rfl, rfl, rfl, by decide +kernel, rfl, by decide +kernel, by decide +kernel⟩
/-! ### law -/
def sp_law (K : PySem.W.Frag) (tb : List Addr) : Sp := fun vs H Q _ => ∃ (a : Addr) (ns : List Int), vs = [.ref a] ∧ SqL K H a (ns.map V.int) ∧ ns.length ≤ 63 ∧ Tabs tb H ∧ ∀ H', Q (.bl true) H'
theorem law_start {K : PySem.W.Frag} {tb : List Addr} {H : Hp} {a : Addr} {ns : List Int} (hl : ns.length ≤ 63) (_ : ∀ z ∈ ns, Builtin.Int.intBits z ≤ 1048576) (hT : Tabs tb H) (hS : SqL K H a (ns.map V.int)) : sp_law K tb [.ref a] H (fun v _ => v = .bl true) (fun _ _ _ => False) :=
  ⟨a, ns, rfl, hS, hl, hT, fun _ => rfl⟩
end FF
namespace FF
open PySem PySem.Spec PyProof.Rows L2
variable [LT]
theorem ok_is_number {P : Program} {w : World} {K : PySem.W.Frag} {mg : Str → Option Value} {base : Heap} {tb : List Addr} {f : Addr} {fd : FuncData} (T : Blt mg) (D_is_number : DefAt K mg "is_number" s_is_number ["thing", "least", "most"] f fd) (XC : Xcs xfs K mg) :
    FnOk P w K mg base CX0 1 f fd ["thing", "least", "most"] (sp_is_number K tb) := by
  refine D_is_number.ok sc_is_number (fun vs H Q E h => by
    obtain ⟨v, lo, hi, n, rfl, hv, q⟩ := h
    all_goals rfl) fun A outer s H vs Q E hr h => ?_
  obtain ⟨v, lo, hi, n, rfl, hv, q⟩ := h
  refine ⟨_, pss_cons (ps_if (PW.pt (pw_or (pt_not (pt_val (pe_callB (isiK (K := K)) (by rfl) T.b_isinstance (by decide +kernel) (pa_cons (pv 0) (pa_cons (pe_bltn (v := .ty "int") (u := .type "int") (by rfl) T.b_int (by decide +kernel) rfl) pa_nil))))) (pw_or1 (pt_val (pe_callB (isiK (K := K)) (by rfl) T.b_isinstance (by decide +kernel) (pa_cons (pv 0) (pa_cons (pe_bltn (v := .ty "bool") (u := .type "bool") (by rfl) T.b_bool (by decide +kernel) rfl) pa_nil)))))))
     (pss_one (ps_ret (pe_bl)))
     (pss_nil))
     (pss_one (ps_ret (pe_chain op_le op_le (pv 1) (pv 0) (pv 2)))), ?_⟩
  refine ⟨_, rfl, v, _, _, _, _, rfl, .ty _, hv.x, hv.isi (.inl rfl), _, rfl, ?_⟩
  cases hv with
  | int i =>
    refine iteF ⟨_, rfl, _, _, _, _, false, rfl, .ty _, (TyN.int i).x, (TyN.int (H := H) i).isi (.inr (.inl rfl)), false, rfl, iteF ?_⟩
    refine ⟨_, rfl, _, rfl, _, _, rfl, rfl, _, rfl, iteB (fun e => ⟨_, rfl, _, _, rfl, rfl, ?_⟩) (fun e => ?_)⟩
    · have z : isNum (.int i) lo hi = decide (i ≤ hi) := by show (decide (lo ≤ i) && decide (i ≤ hi)) = _; rw [e, Bool.true_and]
      rw [z] at q
      exact q
    · have z : isNum (.int i) lo hi = false := by show (decide (lo ≤ i) && decide (i ≤ hi)) = _; rw [e, Bool.false_and]
      rw [z] at q
      exact q
  | bl b => exact iteF ⟨_, rfl, _, _, _, _, true, rfl, .ty _, (TyN.bl b).x, (TyN.bl (H := H) b).isi (.inr (.inl rfl)), true, rfl, iteT q⟩
  | non => exact iteT (iteT q)
  | str x => exact iteT (iteT q)
  | lst h => exact iteT (iteT q)
  | tup h => exact iteT (iteT q)
  | dic h => exact iteT (iteT q)
theorem ok_leader_of {P : Program} {w : World} {K : PySem.W.Frag} {mg : Str → Option Value} {base : Heap} {tb : List Addr} {f : Addr} {fd : FuncData} (T : Blt mg) (D_leader_of : DefAt K mg "leader_of" s_leader_of ["leaders", "point"] f fd) (XC : Xcs xfs K mg) :
    FnOk P w K mg base CX0 1 f fd ["leaders", "point"] (sp_leader_of K tb) := by
  refine D_leader_of.ok sc_leader_of (fun vs H Q E h => by
    obtain ⟨p, ls, n, r, d, x, rfl, hp, u, x0, x1, q⟩ := h
    all_goals rfl) fun A outer s H vs Q E hr h => ?_
  obtain ⟨p, ls, n, r, d, x, rfl, hp, u, x0, x1, q⟩ := h
  refine ⟨_, pss_cons (ps_while PassesOwn.never (pt_cmpR op_ne (pe_ix (ix_listK (K := K)) (pv 0) (pv 1) (fun _ _ => rfl)) (pv 1) (nomark _))
     (pss_cons (ps_asg (pe_ix (ix_listK (K := K)) (pv 0) (pe_ix (ix_listK (K := K)) (pv 0) (pv 1) (fun _ _ => rfl)) (fun _ _ => rfl)) (pg_sub (pv 0) (pv 1) set_list))
     (pss_one (ps_set (i := 1) sc_leader_of.nd rfl (.inl rfl) (pe_ix (ix_listK (K := K)) (pv 0) (pv 1) (fun _ _ => rfl))))))
     (pss_one (ps_ret (pv 1))), ?_⟩
  refine while_by (fun σ G => ∃ (y : Int) (ls' : List Int), σ = [some (.ref p), some (.int y)] ∧ G = upd H p (.lst (ls'.map V.int)) ∧ UF n ls' r d ∧ 0 ≤ y ∧ y < n ∧ r y = r x) (fun σ _ => match σ with | [_, some (.int y)] => d y | _ => 0) ?_ (fun σ G hG => ?_) ?_
  · exact ⟨x, ls, rfl, (upd_id hp).symm, u, x0, x1, rfl⟩
  · obtain ⟨y, ls', rfl, rfl, u', y0, y1, hr⟩ := hG
    have hl := u'.len
    obtain ⟨z0, z1⟩ := u'.rng y y0 y1
    obtain ⟨w0, w1⟩ := u'.rng _ z0 z1
    refine ⟨_, rfl, _, rfl, p, _, _, _, rfl, rfl, sqL_of upd_same, hat_at y0 (by omega), _, rfl, rfl, _, rfl, iteB (fun e => ?_) (fun e => ?_)⟩
    · have hne : hat ls' y ≠ y := fun z => by
        have e : (!decide (V.int (hat ls' y) = V.int y)) = true := e
        rw [z, decide_eq_true rfl] at e
        cases e
      have u2 := u'.half y0 y1 hne
      have hs : hat (ls'.set y.toNat (hat ls' (hat ls' y))) y = hat ls' (hat ls' y) := by rw [hat_set y0 (by omega) y0, if_pos rfl]
      have hdd : d (hat ls' (hat ls' y)) < d y := by
        have h1 := u'.down y y0 y1 hne
        by_cases e : hat ls' (hat ls' y) = hat ls' y
        · rw [e]; exact h1
        · have := u'.down _ z0 z1 e
          omega
      refine ⟨_, rfl, _, rfl, _, rfl, p, _, _, _, rfl, rfl, sqL_of upd_same, hat_at y0 (by omega), p, _, _, _, rfl, rfl, sqL_of upd_same, hat_at z0 (by omega), _, rfl, _, rfl, p, _, _, _, rfl, rfl, upd_same, ix_in y0 (by rw [List.length_map]; omega), ?_⟩
      rw [upd_upd, ← List.map_set]
      refine ⟨_, rfl, _, rfl, p, _, _, _, rfl, rfl, sqL_of upd_same, hat_at y0 (by rw [List.length_set]; omega), ?_⟩
      rw [hs]
      exact ⟨⟨_, _, rfl, rfl, u2, w0, w1, (u'.root _ z0 z1).trans ((u'.root y y0 y1).trans hr)⟩, hdd⟩
    · have he : hat ls' y = y := by
        by_cases z : hat ls' y = y
        · exact z
        · have e : (!decide (V.int (hat ls' y) = V.int y)) = false := e
          rw [decide_eq_false fun q => z (V.int.inj q)] at e
          cases e
      have q1 := q ls' u'
      rw [← hr, u'.top y y0 y1 he] at q1
      exact ⟨_, rfl, q1⟩
  · rintro σ G Q1 Q2 hQ ⟨a, ha, b, hb, p1, xs, i, v, e1, e2, hs, hv, c, hc, hsc, k, hk, hq⟩
    exact ⟨a, ha, b, hb, p1, xs, i, v, e1, e2, hs, hv, c, hc, hsc, k, hk, hQ _ _ hq⟩
theorem ok_join_points {P : Program} {w : World} {K : PySem.W.Frag} {mg : Str → Option Value} {base : Heap} {tb : List Addr} {f : Addr} {fd : FuncData} {f_leader_of : Addr} {fd_leader_of : FuncData} (T : Blt mg) (D_join_points : DefAt K mg "join_points" s_join_points ["leaders", "a", "b"] f fd) (XC : Xcs xfs K mg) (D_leader_of : DefAt K mg "leader_of" s_leader_of ["leaders", "point"] f_leader_of fd_leader_of) (G_leader_of : FnOk P w K mg base CX0 1 f_leader_of fd_leader_of ["leaders", "point"] (sp_leader_of K tb)) :
    FnOk P w K mg base CX0 2 f fd ["leaders", "a", "b"] (sp_join_points K tb) := by
  refine D_join_points.ok sc_join_points (fun vs H Q E h => by
    obtain ⟨p, ls, n, r, d, a, b, rfl, hp, u, a0, a1, b0, b1, q⟩ := h
    all_goals rfl) fun A outer s H vs Q E hr h => ?_
  obtain ⟨p, ls, n, r, d, a, b, rfl, hp, u, a0, a1, b0, b1, q⟩ := h
  refine ⟨_, pss_cons (ps_set (i := 3) sc_join_points.nd rfl (.inl rfl) (pe_call G_leader_of (hr.mono (by decide)) (by rfl) D_leader_of.g D_leader_of.F.kp D_leader_of.b .nil pass0 (pa_cons (pv 0) (pa_cons (pv 1) pa_nil))))
     (pss_cons (ps_set (i := 4) sc_join_points.nd rfl (.inl rfl) (pe_call G_leader_of (hr.mono (by decide)) (by rfl) D_leader_of.g D_leader_of.F.kp D_leader_of.b .nil pass0 (pa_cons (pv 0) (pa_cons (pv 2) pa_nil))))
     (pss_cons (ps_asg (pv 3) (pg_sub (pv 0) (pv 4) set_list))
     (pss_one (ps_ret (pe_cmpR op_ne (pv 3) (pv 4) (nomark _)))))), ?_⟩
  refine ⟨_, rfl, _, rfl, p, ls, n, r, d, a, rfl, hp, u, a0, a1, fun l1 u1 => ?_⟩
  refine ⟨_, rfl, _, rfl, p, l1, n, r, d, b, rfl, upd_same, u1, b0, b1, fun l2 u2 => ?_⟩
  rw [upd_upd]
  obtain ⟨q0, q1, _⟩ := u2.rr b b0 b1
  have hl := u2.len
  refine ⟨_, rfl, _, rfl, _, rfl, p, _, _, _, rfl, rfl, upd_same, ix_in q0 (by rw [List.length_map]; omega), ?_⟩
  rw [upd_upd, ← List.map_set]
  obtain ⟨d', u3⟩ := u2.join a0 a1 b0 b1
  have qq := q _ d' u3
  refine ⟨_, rfl, _, rfl, rfl, ?_⟩
  have e : decide (V.int (r a) = V.int (r b)) = decide (r a = r b) := by
    by_cases z : r a = r b
    · rw [decide_eq_true z, decide_eq_true (congrArg V.int z)]
    · rw [decide_eq_false z, decide_eq_false fun h => z (V.int.inj h)]
  rw [e]
  exact qq
theorem ok_is_tie {P : Program} {w : World} {K : PySem.W.Frag} {mg : Str → Option Value} {base : Heap} {tb : List Addr} {f : Addr} {fd : FuncData} {f_is_number : Addr} {fd_is_number : FuncData} (T : Blt mg) (D_is_tie : DefAt K mg "is_tie" s_is_tie ["points", "thing"] f fd) (XC : Xcs xfs K mg) (D_is_number : DefAt K mg "is_number" s_is_number ["thing", "least", "most"] f_is_number fd_is_number) (G_is_number : FnOk P w K mg base CX0 1 f_is_number fd_is_number ["thing", "least", "most"] (sp_is_number K tb)) :
    FnOk P w K mg base CX0 2 f fd ["points", "thing"] (sp_is_tie K tb) := by
  refine D_is_tie.ok sc_is_tie (fun vs H Q E h => by
    obtain ⟨th, n, o, rfl, hth, q⟩ := h
    all_goals rfl) fun A outer s H vs Q E hr h => ?_
  obtain ⟨th, n, o, rfl, hth, q⟩ := h
  refine ⟨_, pss_cons (ps_if (PW.pt (pw_or (pt_not (pt_val (pe_callB (isiK (K := K)) (by rfl) T.b_isinstance (by decide +kernel) (pa_cons (pv 1) (pa_cons (pe_bltn (v := .ty "tuple") (u := .type "tuple") (by rfl) T.b_tuple (by decide +kernel) rfl) pa_nil))))) (pw_or1 (pt_cmpR op_ne (pe_callB (lenK (K := K)) (by rfl) T.b_len PySem.boot_len (pa_cons (pv 1) pa_nil)) (pe_int) (nomark _)))))
     (pss_one (ps_ret (pe_bl)))
     (pss_nil))
     (pss_cons (ps_asg (pv 1) (tgtK (K := K) (n := 2) (pgs_cons (pg_name (i := 2) sc_is_tie.nd rfl (.inl rfl)) (pgs_cons (pg_name (i := 3) sc_is_tie.nd rfl (.inl rfl)) pgs_nil))))
     (pss_one (ps_ret (pe_and (pe_call G_is_number (hr.mono (by decide)) (by rfl) D_is_number.g D_is_number.F.kp D_is_number.b .nil pass0 (pa_cons (pv 3) (pa_cons (pe_int) (pa_cons (pe_op op_sub (pv 0) (pe_int)) pa_nil)))) (pe_one (pe_call G_is_number (hr.mono (by decide)) (by rfl) D_is_number.g D_is_number.F.kp D_is_number.b .nil pass0 (pa_cons (pv 2) (pa_cons (pe_int) (pa_cons (pe_op op_sub (pv 3) (pe_int)) pa_nil))))))))), ?_⟩
  cases hth with
  | @no _ nm h hn =>
    refine ⟨_, rfl, th, _, _, _, _, rfl, .ty _, h.x, isi_no h hn, _, rfl, ?_⟩
    exact iteT (iteT q)
  | @yes a xs h hx =>
    refine ⟨_, rfl, _, _, _, _, true, rfl, .ty _, (TyN.tup h).x, isi_yes, true, rfl, iteF ?_⟩
    refine ⟨_, rfl, a, _, rfl, .inr (sqT_of h), rfl, _, rfl, ?_⟩
    refine iteB (fun hb => ?_) (fun hb => ?_)
    · have hb : (!decide (V.int (xs.length : Int) = V.int 2)) = true := hb
      rw [decide_int] at hb
      have hne : xs.length ≠ 2 := fun z => by rw [z] at hb; cases hb
      rw [tieO_len hne] at q
      exact q
    have hb : (!decide (V.int (xs.length : Int) = V.int 2)) = false := hb
    rw [decide_int] at hb
    have h2 : xs.length = 2 := by
      by_cases z : xs.length = 2
      · exact z
      · rw [decide_eq_false (by omega)] at hb
        cases hb
    obtain ⟨x, y, rfl⟩ : ∃ x y, xs = [x, y] := by
      match xs, h2 with
      | [x, y], _ => exact ⟨x, y, rfl⟩
    refine ⟨_, rfl, a, _, rfl, sqT_of h, rfl, _, _, rfl, _, [], rfl, rfl, ?_⟩
    obtain ⟨nx, tx⟩ := hx x List.mem_cons_self
    obtain ⟨ny, ty⟩ := hx y (List.mem_cons_of_mem _ List.mem_cons_self)
    refine ⟨_, rfl, _, rfl, _, _, rfl, rfl, y, 0, n - 1, ny, rfl, ty, _, rfl, iteB (fun e => ?_) (fun e => ?_)⟩
    · cases y with
      | int j =>
        refine ⟨_, rfl, _, rfl, _, _, rfl, rfl, x, 0, j - 1, nx, rfl, tx, ?_⟩
        have e2 : tieO n (some [x, .int j]) = isNum x 0 (j - 1) := by
          show (isNum (.int j) 0 (n - 1) && isNum x 0 (j - 1)) = _
          rw [e, Bool.true_and]
        rw [e2] at q
        exact q
      | _ => cases e
    · rw [tieO_two e] at q
      exact q
theorem ok_check {P : Program} {w : World} {K : PySem.W.Frag} {mg : Str → Option Value} {base : Heap} {tb : List Addr} {f : Addr} {fd : FuncData} {f_is_number : Addr} {fd_is_number : FuncData} {f_is_tie : Addr} {fd_is_tie : FuncData} (T : Blt mg) (D_check : DefAt K mg "check" s_check ["thing"] f fd) (XC : Xcs xfs K mg) (D_is_number : DefAt K mg "is_number" s_is_number ["thing", "least", "most"] f_is_number fd_is_number) (G_is_number : FnOk P w K mg base CX0 1 f_is_number fd_is_number ["thing", "least", "most"] (sp_is_number K tb)) (D_is_tie : DefAt K mg "is_tie" s_is_tie ["points", "thing"] f_is_tie fd_is_tie) (G_is_tie : FnOk P w K mg base CX0 2 f_is_tie fd_is_tie ["points", "thing"] (sp_is_tie K tb)) {c Pt : Addr} (TB : LamX.TabB base mg c Pt) (hcd : fd.code = .ref c) (hPt : Pt ∈ tb) :
    FnOk P w K mg base (L2.CX P w) 6 f fd ["thing"] (sp_check K tb) := by
  refine D_check.okE sc_check (fun vs H Q E h => by
    obtain ⟨v, b, rfl, hv, hT0, q1, q0⟩ := h
    all_goals rfl) fun A outer s H vs Q E hr h => ?_
  obtain ⟨v, b, rfl, hv, hT0, q1, q0⟩ := h
  refine ⟨_, pss_cons (ps_if (PT.nox (PW.pt (pw_or (pt_not (pt_val (pe_callB (isiK (K := K)) (by rfl) T.b_isinstance (by decide +kernel) (pa_cons (pv 0) (pa_cons (pe_bltn (v := .ty "tuple") (u := .type "tuple") (by rfl) T.b_tuple (by decide +kernel) rfl) pa_nil))))) (pw_or1 (pt_cmpR op_ne (pe_callB (lenK (K := K)) (by rfl) T.b_len PySem.boot_len (pa_cons (pv 0) pa_nil)) (pe_int) (nomark _))))))
     (pss_one (ps_raiseC XC (by decide +kernel) (by decide +kernel) rfl (takes_of rfl rfl rfl rfl) (by rfl)))
     (pss_nil))
     (pss_cons (ps_nox (ps_asg (pv 0) (tgtK (K := K) (n := 2) (pgs_cons (pg_name (i := 1) sc_check.nd rfl (.inr rfl)) (pgs_cons (pg_name (i := 2) sc_check.nd rfl (.inl rfl)) pgs_nil)))))
     (pss_cons (ps_if (PT.nox (pt_not (pt_val (pe_call G_is_number (hr.mono (by decide)) (by rfl) D_is_number.g D_is_number.F.kp D_is_number.b .nil pass0 (pa_cons (pv 1) (pa_cons (pe_int) (pa_cons (pe_glob (v := .int 40) (by rfl) T.c_MOST_POINTS.choose_spec ⟨_, rfl⟩) pa_nil)))))))
     (pss_one (ps_raiseC XC (by decide +kernel) (by decide +kernel) rfl (takes_of rfl rfl rfl rfl) (by rfl)))
     (pss_nil))
     (pss_cons (ps_if (PT.nox (PW.pt (pw_or (pt_not (pt_val (pe_callB (isiK (K := K)) (by rfl) T.b_isinstance (by decide +kernel) (pa_cons (pv 2) (pa_cons (pe_bltn (v := .ty "tuple") (u := .type "tuple") (by rfl) T.b_tuple (by decide +kernel) rfl) pa_nil))))) (pw_or1 (pt_cmpR op_gt (pe_callB (lenK (K := K)) (by rfl) T.b_len PySem.boot_len (pa_cons (pv 2) pa_nil)) (pe_glob (v := .int 120) (by rfl) T.c_MOST_TIES.choose_spec ⟨_, rfl⟩) (nomark _))))))
     (pss_one (ps_raiseC XC (by decide +kernel) (by decide +kernel) rfl (takes_of rfl rfl rfl rfl) (by rfl)))
     (pss_nil))
     (pss_cons (ps_if (PT.nox (pt_not (pt_val (pe_all (k := 2) (vs := [1]) (hr.mono (by decide)) (by rfl) T.b_all (by decide +kernel) TB hcd (gxs_of (XN := nm_check) (xsc := defScope s_check) (N := ["points", "tie"]) (src := [some 1, none]) (by decide +kernel)) (pi_tup (pv 2)) ⟨fun _ _ _ _ _ _ => pg_name (i := 1) gnd_check_0 rfl (.inl rfl), fun _ _ _ _ _ _ hz => pts_nil, fun _ _ _ _ _ _ hz => pe_call G_is_tie (hz.mono (by decide)) (by rfl) D_is_tie.g D_is_tie.F.kp D_is_tie.b .nil pass0 (pa_cons (pv 0) (pa_cons (pv 1) pa_nil))⟩))))
     (pss_one (ps_raiseC XC (by decide +kernel) (by decide +kernel) rfl (takes_of rfl rfl rfl rfl) (by rfl)))
     (pss_nil))
     (pss_one (ps_nox (ps_ret (pe_bl)))))))), ?_⟩
  cases hv with
  | no h hn =>
    refine ⟨_, rfl, v, _, _, _, _, rfl, .ty _, h.x, isi_no h hn, _, rfl, ?_⟩
    exact iteT (iteT (q0 rfl _ .refl))
  | @len a xs h hl =>
    refine ⟨_, rfl, _, _, _, _, true, rfl, .ty _, (TyN.tup h).x, isi_yes, true, rfl, iteF ?_⟩
    refine ⟨_, rfl, a, _, rfl, .inr (sqT_of h), rfl, _, rfl, ?_⟩
    have e : (!decide (V.int (xs.length : Int) = V.int 2)) = true := by
      rw [decide_int, decide_eq_false (by omega)]
      rfl
    rw [e]
    exact iteT (q0 rfl _ .refl)
  | @pts a x y nm h hx hb =>
    refine ⟨_, rfl, _, _, _, _, true, rfl, .ty _, (TyN.tup h).x, isi_yes, true, rfl, iteF ?_⟩
    refine ⟨_, rfl, a, _, rfl, .inr (sqT_of h), rfl, _, rfl, iteF ?_⟩
    refine ⟨_, rfl, a, _, rfl, sqT_of h, rfl, _, _, rfl, _, [], rfl, rfl, ?_⟩
    refine ⟨_, rfl, x, 1, 40, nm, rfl, hx, _, rfl, ?_⟩
    rw [hb]
    exact iteT (q0 rfl _ .refl)
  | @tys a n y nm h h0 h1 hy hn =>
    refine ⟨_, rfl, _, _, _, _, true, rfl, .ty _, (TyN.tup h).x, isi_yes, true, rfl, iteF ?_⟩
    refine ⟨_, rfl, a, _, rfl, .inr (sqT_of h), rfl, _, rfl, iteF ?_⟩
    refine ⟨_, rfl, a, _, rfl, sqT_of h, rfl, _, _, rfl, _, [], rfl, rfl, ?_⟩
    have e : isNum (.int n) 1 40 = true := by show (decide (1 ≤ n) && decide (n ≤ 40)) = true; rw [decide_eq_true h0, decide_eq_true h1]; rfl
    refine ⟨_, rfl, .int n, 1, 40, _, rfl, .int n, _, rfl, ?_⟩
    rw [e]
    refine iteF ⟨_, rfl, y, _, _, _, _, rfl, .ty _, hy.x, isi_no hy hn, _, rfl, ?_⟩
    exact iteT (iteT (q0 rfl _ .refl))
  | @many a u n rs h h0 h1 hu hl =>
    refine ⟨_, rfl, _, _, _, _, true, rfl, .ty _, (TyN.tup h).x, isi_yes, true, rfl, iteF ?_⟩
    refine ⟨_, rfl, a, _, rfl, .inr (sqT_of h), rfl, _, rfl, iteF ?_⟩
    refine ⟨_, rfl, a, _, rfl, sqT_of h, rfl, _, _, rfl, _, [], rfl, rfl, ?_⟩
    have e : isNum (.int n) 1 40 = true := by show (decide (1 ≤ n) && decide (n ≤ 40)) = true; rw [decide_eq_true h0, decide_eq_true h1]; rfl
    refine ⟨_, rfl, .int n, 1, 40, _, rfl, .int n, _, rfl, ?_⟩
    rw [e]
    refine iteF ⟨_, rfl, _, _, _, _, true, rfl, .ty _, (TyN.tup hu).x, isi_yes, true, rfl, iteF ?_⟩
    refine ⟨_, rfl, u, _, rfl, .inr (sqT_of hu), _, _, rfl, rfl, _, rfl, ?_⟩
    rw [decide_eq_true (show (120 : Int) < rs.length by omega)]
    exact iteT (q0 rfl _ .refl)
  | @ties a u n rs os h h0 h1 hu hl hr =>
    refine ⟨_, rfl, _, _, _, _, true, rfl, .ty _, (TyN.tup h).x, isi_yes, true, rfl, iteF ?_⟩
    refine ⟨_, rfl, a, _, rfl, .inr (sqT_of h), rfl, _, rfl, iteF ?_⟩
    refine ⟨_, rfl, a, _, rfl, sqT_of h, rfl, _, _, rfl, _, [], rfl, rfl, ?_⟩
    have e : isNum (.int n) 1 40 = true := by show (decide (1 ≤ n) && decide (n ≤ 40)) = true; rw [decide_eq_true h0, decide_eq_true h1]; rfl
    refine ⟨_, rfl, .int n, 1, 40, _, rfl, .int n, _, rfl, ?_⟩
    rw [e]
    refine iteF ⟨_, rfl, _, _, _, _, true, rfl, .ty _, (TyN.tup hu).x, isi_yes, true, rfl, iteF ?_⟩
    refine ⟨_, rfl, u, _, rfl, .inr (sqT_of hu), _, _, rfl, rfl, _, rfl, ?_⟩
    rw [decide_eq_false (show ¬ (120 : Int) < rs.length by omega)]
    refine iteF ?_
    refine ⟨_, rfl, u, rfl, ⟨_, sqT_of hu⟩, hT0 _ hPt, fun H2 htb => ?_⟩
    have k2 := Ke.tabd (hT0 _ hPt) htb
    refine gx_all (walk_tup (K := K) (a := u) (xs := rs)) (fun i G => G = H2 ∧ ∀ o ∈ os.take i, tieO n o = true) ⟨rfl, fun _ z => nomatch z⟩ (fun i G _ hG => by rw [hG.1]; exact sqT_of (k2.tup hu)) (fun i x G G' hi hG hy => ?_) (fun G hG => ?_)
    · obtain ⟨rfl, ho⟩ := hG
      obtain ⟨rfl, hxi⟩ := hy
      obtain ⟨o, hoi, hxo⟩ := paired_get hr hxi
      refine ⟨rfl, yes_ite ?_⟩
      refine ⟨_, rfl, _, rfl, x, n, o, rfl, hxo.ke k2, _, rfl, ?_⟩
      by_cases e : tieO n o = true
      · rw [e, if_neg (by decide)]
        refine ⟨rfl, fun y hy => ?_⟩
        rw [take_next hoi] at hy
        rcases List.mem_append.mp hy with hy | hy
        · exact ho y hy
        · rw [List.mem_singleton.mp hy, e]
      · have e : tieO n o = false := by simpa using e
        rw [e, if_pos rfl]
        have eb : os.all (tieO n) = false := List.all_eq_false.mpr ⟨o, List.mem_of_getElem? hoi, by rw [e]; decide⟩
        exact ⟨_, rfl, iteT (q0 eb _ k2)⟩
    · obtain ⟨rfl, ho⟩ := hG
      rw [show rs.length = os.length from Paired.length hr, List.take_length] at ho
      exact ⟨_, rfl, iteF (q1 (List.all_eq_true.mpr ho) _ k2)⟩
theorem ok_ringless {P : Program} {w : World} {K : PySem.W.Frag} {mg : Str → Option Value} {base : Heap} {tb : List Addr} {f : Addr} {fd : FuncData} {f_join_points : Addr} {fd_join_points : FuncData} (T : Blt mg) (D_ringless : DefAt K mg "ringless" s_ringless ["web", "ties"] f fd) (XC : Xcs xfs K mg) (D_join_points : DefAt K mg "join_points" s_join_points ["leaders", "a", "b"] f_join_points fd_join_points) (G_join_points : FnOk P w K mg base CX0 2 f_join_points fd_join_points ["leaders", "a", "b"] (sp_join_points K tb)) :
    FnOk P w K mg base CX0 3 f fd ["web", "ties"] (sp_ringless K tb) := by
  refine D_ringless.ok sc_ringless (fun vs H Q E h => by
    obtain ⟨v, n, ts, u, ms, rfl, W, hu, hok, hn0, hn1, hm, q⟩ := h
    all_goals rfl) fun A outer s H vs Q E hr h => ?_
  obtain ⟨v, n, ts, u, ms, rfl, W, hu, hok, hn0, hn1, hm, q⟩ := h
  refine ⟨_, pss_cons (ps_set (i := 2) sc_ringless.nd rfl (.inl rfl) (pe_listRg rfl (by rfl) T.b_list (prg_1 (by rfl) T.b_range (pe_ix (ix_tupK (K := K)) (pv 0) (pe_int) (fun _ _ => rfl)))))
     (pss_cons (ps_for PassesOwn.never rfl ((pi_seq (K := K)) (pv 1)) (pg_name (i := 3) sc_ringless.nd rfl (.inl rfl))
     (pss_cons (ps_asg (pe_ix (ix_tupK (K := K)) (pe_ix (ix_tupK (K := K)) (pv 0) (pe_int) (fun _ _ => rfl)) (pv 3) (fun _ _ => rfl)) (tgtK (K := K) (n := 2) (pgs_cons (pg_name (i := 4) sc_ringless.nd rfl (.inl rfl)) (pgs_cons (pg_name (i := 5) sc_ringless.nd rfl (.inl rfl)) pgs_nil))))
     (pss_one (ps_if (pt_not (pt_val (pe_call G_join_points (hr.mono (by decide)) (by rfl) D_join_points.g D_join_points.F.kp D_join_points.b .nil pass0 (pa_cons (pv 2) (pa_cons (pv 4) (pa_cons (pv 5) pa_nil))))))
     (pss_one (ps_ret (pe_bl)))
     (pss_nil)))))
     (pss_one (ps_ret (pe_bl)))), ?_⟩
  obtain ⟨t, w, rs, rfl, ht, hw, hT⟩ := W
  refine ⟨_, rfl, t, _, 0, _, rfl, rfl, sqT_of ht, atI_nat (j := 0) rfl, n, rfl, ⟨by omega, by omega, by omega, by omega, by omega⟩, fun l nl => ?_⟩
  rcases hu with hu | hu
  · refine ⟨_, rfl, u, _, rfl, .inl ⟨sqL_of (lst_new nl hu), ?_⟩⟩
    refine for_list (K := K) (a := u) (xs := ms.map V.int) (fun i σ G => ∃ (y3 y4 y5 : Option V) (ls : List Int) (d : Int → Nat), σ = [some (.ref t), some (.ref u), some (.ref l), y3, y4, y5] ∧ Ke H G ∧ G l = some (.lst (ls.map V.int)) ∧ UF n ls (foldR (fun x => x) (pick ts (ms.take i))) d ∧ ringlessF (fun x => x) (pick ts (ms.take i)) = true) ⟨_, _, _, upTo n, _, rfl, Ke.new nl, by rw [← rgV_up]; exact upd_same, UF.start hn0, rfl⟩ (fun i σ G _ hG => ?_) (fun i x σ G hx hG => ?_) (fun σ G hG => ?_)
    · obtain ⟨_, _, _, _, _, _, kG, _⟩ := hG
      exact sqL_of (kG.lst hu)
    · obtain ⟨y3, y4, y5, ls, d, rfl, kG, gl, U, hF⟩ := hG
      obtain ⟨m, hm0, rfl⟩ := int_at hx
      obtain ⟨m0, m1⟩ := hm m (List.mem_of_getElem? hm0)
      obtain ⟨e, he, hq⟩ := hT.at_ m0 m1
      have ok := hok _ (List.mem_of_getElem? (getD_at m0 m1))
      have ok1 := ok.1
      have ok2 := ok.2.1
      have ok3 := ok.2.2
      have ep : pick ts (ms.take (i + 1)) = pick ts (ms.take i) ++ [ts.getD m.toNat (0, 0)] := by rw [take_next hm0, pick_append]; rfl
      have er : pick ts ms = (pick ts (ms.take i) ++ [ts.getD m.toNat (0, 0)]) ++ pick ts (ms.drop (i + 1)) := by rw [← ep, ← pick_append, List.take_append_drop]
      have hmo := ringlessF_more hF (ts.getD m.toNat (0, 0))
      obtain ⟨g, hg⟩ : ∃ g, g = ts.getD m.toNat (0, 0) := ⟨_, rfl⟩
      rw [← hg] at ok1 ok2 ok3 hq hmo ep er
      refine ⟨_, rfl, t, _, 1, _, rfl, rfl, sqT_of (kG.tup ht), atI_nat (j := 1) rfl, _, rfl, w, _, m, _, rfl, rfl, sqT_of (kG.tup hw), he, ?_⟩
      refine ⟨e, _, rfl, sqT_of (kG.tup hq), rfl, _, _, rfl, _, [], rfl, rfl, ?_⟩
      refine ⟨_, rfl, _, rfl, _, rfl, l, ls, n, _, d, g.1, g.2, rfl, gl, U, ok1, Int.lt_trans ok2 ok3, Int.le_trans ok1 (Int.le_of_lt ok2), ok3, fun ls' d' U' => ?_⟩
      refine ⟨_, rfl, iteB (fun hb => ?_) (fun hb => ?_)⟩
      · have hz : ringlessF (fun x => x) (pick ts ms) = false := by
          rw [er]
          refine ringlessF_bad _ _ _ ?_
          rw [hmo]
          revert hb
          cases decide (foldR (fun x => x) (pick ts (ms.take i)) g.1 = foldR (fun x => x) (pick ts (ms.take i)) g.2)
          · intro hb; cases hb
          · intro _; rfl
        have q1 := q _ (kG.over (o := .lst (ls'.map V.int)) nl)
        rw [hz] at q1
        exact q1
      · have hz : ringlessF (fun x => x) (pick ts (ms.take (i + 1))) = true := by
          rw [ep, hmo]
          revert hb
          cases decide (foldR (fun x => x) (pick ts (ms.take i)) g.1 = foldR (fun x => x) (pick ts (ms.take i)) g.2)
          · intro _; rfl
          · intro hb; cases hb
        exact ⟨_, _, _, ls', d', rfl, kG.over nl, upd_same, by rw [ep, foldR_snoc]; exact U', hz⟩
    · obtain ⟨_, _, _, _, _, rfl, kG, _, _, hF⟩ := hG
      have q1 := q G kG
      rw [List.length_map, List.take_length] at hF
      rw [hF] at q1
      exact q1
  · refine ⟨_, rfl, u, _, rfl, .inr ⟨sqT_of (tup_new nl hu), ?_⟩⟩
    refine for_tup (K := K) (a := u) (xs := ms.map V.int) (fun i σ G => ∃ (y3 y4 y5 : Option V) (ls : List Int) (d : Int → Nat), σ = [some (.ref t), some (.ref u), some (.ref l), y3, y4, y5] ∧ Ke H G ∧ G l = some (.lst (ls.map V.int)) ∧ UF n ls (foldR (fun x => x) (pick ts (ms.take i))) d ∧ ringlessF (fun x => x) (pick ts (ms.take i)) = true) ⟨_, _, _, upTo n, _, rfl, Ke.new nl, by rw [← rgV_up]; exact upd_same, UF.start hn0, rfl⟩ (fun i σ G _ hG => ?_) (fun i x σ G hx hG => ?_) (fun σ G hG => ?_)
    · obtain ⟨_, _, _, _, _, _, kG, _⟩ := hG
      exact sqT_of (kG.tup hu)
    · obtain ⟨y3, y4, y5, ls, d, rfl, kG, gl, U, hF⟩ := hG
      obtain ⟨m, hm0, rfl⟩ := int_at hx
      obtain ⟨m0, m1⟩ := hm m (List.mem_of_getElem? hm0)
      obtain ⟨e, he, hq⟩ := hT.at_ m0 m1
      have ok := hok _ (List.mem_of_getElem? (getD_at m0 m1))
      have ok1 := ok.1
      have ok2 := ok.2.1
      have ok3 := ok.2.2
      have ep : pick ts (ms.take (i + 1)) = pick ts (ms.take i) ++ [ts.getD m.toNat (0, 0)] := by rw [take_next hm0, pick_append]; rfl
      have er : pick ts ms = (pick ts (ms.take i) ++ [ts.getD m.toNat (0, 0)]) ++ pick ts (ms.drop (i + 1)) := by rw [← ep, ← pick_append, List.take_append_drop]
      have hmo := ringlessF_more hF (ts.getD m.toNat (0, 0))
      obtain ⟨g, hg⟩ : ∃ g, g = ts.getD m.toNat (0, 0) := ⟨_, rfl⟩
      rw [← hg] at ok1 ok2 ok3 hq hmo ep er
      refine ⟨_, rfl, t, _, 1, _, rfl, rfl, sqT_of (kG.tup ht), atI_nat (j := 1) rfl, _, rfl, w, _, m, _, rfl, rfl, sqT_of (kG.tup hw), he, ?_⟩
      refine ⟨e, _, rfl, sqT_of (kG.tup hq), rfl, _, _, rfl, _, [], rfl, rfl, ?_⟩
      refine ⟨_, rfl, _, rfl, _, rfl, l, ls, n, _, d, g.1, g.2, rfl, gl, U, ok1, Int.lt_trans ok2 ok3, Int.le_trans ok1 (Int.le_of_lt ok2), ok3, fun ls' d' U' => ?_⟩
      refine ⟨_, rfl, iteB (fun hb => ?_) (fun hb => ?_)⟩
      · have hz : ringlessF (fun x => x) (pick ts ms) = false := by
          rw [er]
          refine ringlessF_bad _ _ _ ?_
          rw [hmo]
          revert hb
          cases decide (foldR (fun x => x) (pick ts (ms.take i)) g.1 = foldR (fun x => x) (pick ts (ms.take i)) g.2)
          · intro hb; cases hb
          · intro _; rfl
        have q1 := q _ (kG.over (o := .lst (ls'.map V.int)) nl)
        rw [hz] at q1
        exact q1
      · have hz : ringlessF (fun x => x) (pick ts (ms.take (i + 1))) = true := by
          rw [ep, hmo]
          revert hb
          cases decide (foldR (fun x => x) (pick ts (ms.take i)) g.1 = foldR (fun x => x) (pick ts (ms.take i)) g.2)
          · intro _; rfl
          · intro hb; cases hb
        exact ⟨_, _, _, ls', d', rfl, kG.over nl, upd_same, by rw [ep, foldR_snoc]; exact U', hz⟩
    · obtain ⟨_, _, _, _, _, rfl, kG, _, _, hF⟩ := hG
      have q1 := q G kG
      rw [List.length_map, List.take_length] at hF
      rw [hF] at q1
      exact q1
theorem ok_tie_of {P : Program} {w : World} {K : PySem.W.Frag} {mg : Str → Option Value} {base : Heap} {tb : List Addr} {f : Addr} {fd : FuncData} (T : Blt mg) (D_tie_of : DefAt K mg "tie_of" s_tie_of ["a", "b"] f fd) (XC : Xcs xfs K mg) :
    FnOk P w K mg base CX0 1 f fd ["a", "b"] (sp_tie_of K tb) := by
  refine D_tie_of.ok sc_tie_of (fun vs H Q E h => by
    obtain ⟨a, b, rfl, q⟩ := h
    all_goals rfl) fun A outer s H vs Q E hr h => ?_
  obtain ⟨a, b, rfl, q⟩ := h
  refine ⟨_, pss_one (ps_ret (pe_tup (pa_cons (pe_callB (call_min2 rfl) (by rfl) T.b_min (by decide +kernel) (pa_cons (pv 0) (pa_cons (pv 1) pa_nil))) (pa_cons (pe_callB (call_max2 rfl) (by rfl) T.b_max (by decide +kernel) (pa_cons (pv 0) (pa_cons (pv 1) pa_nil))) pa_nil)))), ?_⟩
  exact ⟨_, rfl, _, rfl, _, _, rfl, _, rfl, _, rfl, _, _, rfl, by show 2 ≤ sizeLine; decide, fun p np => q p np⟩
theorem ok_renamed_web {P : Program} {w : World} {K : PySem.W.Frag} {mg : Str → Option Value} {base : Heap} {tb : List Addr} {f : Addr} {fd : FuncData} {f_tie_of : Addr} {fd_tie_of : FuncData} (T : Blt mg) (D_renamed_web : DefAt K mg "renamed_web" s_renamed_web ["web", "names", "order"] f fd) (XC : Xcs xfs K mg) (D_tie_of : DefAt K mg "tie_of" s_tie_of ["a", "b"] f_tie_of fd_tie_of) (G_tie_of : FnOk P w K mg base CX0 1 f_tie_of fd_tie_of ["a", "b"] (sp_tie_of K tb)) {c Pt : Addr} (TB : LamX.TabB base mg c Pt) (hcd : fd.code = .ref c) (hPt : Pt ∈ tb) :
    FnOk P w K mg base CX0 8 f fd ["web", "names", "order"] (sp_renamed_web K tb) := by
  refine D_renamed_web.ok sc_renamed_web (fun vs H Q E h => by
    obtain ⟨v, n, ts, a, ns, b, ord, rfl, W, hok, hn1, hn2, hlen, hns, hN, hord, hO, hT0, q⟩ := h
    all_goals rfl) fun A outer s H vs Q E hr h => ?_
  obtain ⟨v, n, ts, a, ns, b, ord, rfl, W, hok, hn1, hn2, hlen, hns, hN, hord, hO, hT0, q⟩ := h
  refine ⟨_, pss_cons (ps_asg (pv 0) (tgtK (K := K) (n := 2) (pgs_cons (pg_name (i := 3) sc_renamed_web.nd rfl (.inl rfl)) (pgs_cons (pg_name (i := 4) sc_renamed_web.nd rfl (.inr rfl)) pgs_nil))))
     (pss_one (ps_ret (pe_tup (pa_cons (pv 3) (pa_cons (pe_tuple (k := 1) (vs := [2]) (hr.mono (by decide)) (by rfl) T.b_tuple TB hcd (gxs_of (XN := nm_renamed_web) (xsc := defScope s_renamed_web) (N := ["names", "ties", "number"]) (src := [some 1, some 4, none]) (by decide +kernel)) (pi_tup (pv 2)) ⟨fun _ _ _ _ _ _ => pg_name (i := 2) gnd_renamed_web_0 rfl (.inl rfl), fun _ _ _ _ _ _ hz => pts_nil, fun _ _ _ _ _ _ hz => pe_call G_tie_of (hz.mono (by decide)) (by rfl) D_tie_of.g D_tie_of.F.kp D_tie_of.b .nil pass0 (pa_cons (pe_ix (ix_tupK (K := K)) (pv 0) (pe_ix (ix_tupK (K := K)) (pe_ix (ix_tupK (K := K)) (pv 1) (pv 2) (fun _ _ => rfl)) (pe_int) (fun _ _ => rfl)) (fun _ _ => rfl)) (pa_cons (pe_ix (ix_tupK (K := K)) (pv 0) (pe_ix (ix_tupK (K := K)) (pe_ix (ix_tupK (K := K)) (pv 1) (pv 2) (fun _ _ => rfl)) (pe_int) (fun _ _ => rfl)) (fun _ _ => rfl)) pa_nil))⟩) pa_nil))))), ?_⟩
  have LB := line_big
  have hol := hO.len
  obtain ⟨t, u, rs, rfl, ht, hu, hT⟩ := id W
  have hrl := hT.length
  refine ⟨_, rfl, t, _, rfl, sqT_of ht, rfl, _, _, rfl, _, [], rfl, rfl, ?_⟩
  refine ⟨_, rfl, _, rfl, b, rfl, ⟨_, hord⟩, hT0 _ hPt, fun H2 htb => ?_⟩
  have k2 := Ke.tabd (hT0 _ hPt) htb
  refine gx_it (a0 := []) (walk_tup (K := K) (a := b) (xs := ord.map V.int)) (fun i xs G => Ke H G ∧ xs.length = i ∧ Ties G xs ((renF ns ts ord).take i)) ⟨k2, rfl, .nil⟩ (fun i xs G _ hG => sqT_ke hord hG.1) (fun i x xs G G' hi hG hy => ?_) (fun xs G hG => ?_)
  · obtain ⟨kG, hxl, hX⟩ := hG
    obtain ⟨rfl, hx⟩ := hy
    obtain ⟨m, hm, rfl⟩ := int_at hx
    obtain ⟨m0, m1⟩ := hO.mem.mp (List.mem_of_getElem? hm)
    rw [List.length_map] at hi
    obtain ⟨et, hmem⟩ := tieAt_in m0 m1
    obtain ⟨t0, t1, t2⟩ := hok _ hmem
    have e : (renF ns ts ord)[i]? = some (mvT (nmF ns) (tieAt ts m)) := by
      unfold renF
      rw [List.getElem?_map, hm]
      rfl
    obtain ⟨q', eat, hq⟩ := hT.at_ m0 m1
    refine ⟨rfl, yes_ite ?_⟩
    have hqG := Ke.tup kG hq
    have huG := Ke.tup kG hu
    have hnG := sqT_ke hns kG
    refine ⟨_, rfl, _, rfl, _, rfl, u, _, _, _, rfl, rfl, sqT_of huG, eat, q', _, 0, _, rfl, rfl, sqT_of hqG, atI_nat (j := 0) rfl, a, _, _, _, rfl, rfl, hnG, hN.at_ (x := (tieAt ts m).1) t0 (by omega), ?_⟩
    refine ⟨_, rfl, _, rfl, _, rfl, u, _, _, _, rfl, rfl, sqT_of huG, eat, q', _, 1, _, rfl, rfl, sqT_of hqG, atI_nat (j := 1) rfl, a, _, _, _, rfl, rfl, hnG, hN.at_ (x := (tieAt ts m).2) (by omega) t2, ?_⟩
    refine ⟨_, _, rfl, fun p np => ⟨by omega, kG.trans (Ke.new np), by rw [List.length_append, hxl]; rfl, ?_⟩⟩
    rw [take_next e]
    exact (hX.new np).append (Ties.one upd_same)
  · obtain ⟨kG, hxl, hX⟩ := hG
    have hll : (renF ns ts ord).length = ord.length := ren_len
    rw [List.length_map] at hxl hX
    rw [← hll, List.take_length] at hX
    refine ⟨by omega, fun z nz => ?_⟩
    refine ⟨by show 2 ≤ sizeLine; decide, fun p np => ?_⟩
    have k3 := (Ke.new (S := fun _ => False) (o := .tup xs) nz)
    have k4 := (Ke.new (S := fun _ => False) (o := .tup [.int (n : Int), .ref z]) np)
    exact q _ _ ((kG.trans k3).trans k4) ⟨p, z, xs, rfl, upd_same, tup_new np upd_same, (hX.new nz).new np⟩
theorem ok_led_laying {P : Program} {w : World} {K : PySem.W.Frag} {mg : Str → Option Value} {base : Heap} {tb : List Addr} {f : Addr} {fd : FuncData} (T : Blt mg) (D_led_laying : DefAt K mg "led_laying" s_led_laying ["laying", "order"] f fd) (XC : Xcs xfs K mg) {c Pt : Addr} (TB : LamX.TabB base mg c Pt) (hcd : fd.code = .ref c) (hPt : Pt ∈ tb) :
    FnOk P w K mg base CX0 7 f fd ["laying", "order"] (sp_led_laying K tb) := by
  refine D_led_laying.ok sc_led_laying (fun vs H Q E h => by
    obtain ⟨a, ws, b, ord, rfl, ha, hord, hO, hlen, hT0, q⟩ := h
    all_goals rfl) fun A outer s H vs Q E hr h => ?_
  obtain ⟨a, ws, b, ord, rfl, ha, hord, hO, hlen, hT0, q⟩ := h
  refine ⟨_, pss_one (ps_ret (pe_tuple (k := 0) (vs := [1]) (hr.mono (by decide)) (by rfl) T.b_tuple TB hcd (gxs_of (XN := nm_led_laying) (xsc := defScope s_led_laying) (N := ["laying", "number"]) (src := [some 0, none]) (by decide +kernel)) (pi_tup (pv 1)) ⟨fun _ _ _ _ _ _ => pg_name (i := 1) gnd_led_laying_0 rfl (.inl rfl), fun _ _ _ _ _ _ hz => pts_nil, fun _ _ _ _ _ _ hz => pe_ix (ix_tupK (K := K)) (pv 0) (pv 1) (fun _ _ => rfl)⟩)), ?_⟩
  have LB := line_big
  have hol := hO.len
  refine ⟨_, rfl, b, rfl, ⟨_, hord⟩, hT0 _ hPt, fun H2 htb => ?_⟩
  have k2 := Ke.tabd (hT0 _ hPt) htb
  refine gx_it (a0 := []) (walk_tup (K := K) (a := b) (xs := ord.map V.int)) (fun i xs G => Ke H G ∧ xs.length = i ∧ xs = (ledL ord ws).take i) ⟨k2, rfl, rfl⟩ (fun i xs G _ hG => sqT_ke hord hG.1) (fun i x xs G G' hi hG hy => ?_) (fun xs G hG => ?_)
  · obtain ⟨kG, hxl, hX⟩ := hG
    obtain ⟨rfl, hx⟩ := hy
    obtain ⟨m, hm, rfl⟩ := int_at hx
    obtain ⟨m0, m1⟩ := hO.mem.mp (List.mem_of_getElem? hm)
    rw [List.length_map] at hi
    have e : (ledL ord ws)[i]? = some (ws.getD m.toNat .non) := by
      unfold ledL
      rw [List.getElem?_map, hm]
      rfl
    refine ⟨rfl, yes_ite ?_⟩
    refine ⟨_, rfl, _, rfl, a, _, _, _, rfl, rfl, sqT_of (Ke.tup kG ha), atI_getD m0 m1, by omega, kG, by rw [List.length_append, hxl]; rfl, ?_⟩
    rw [take_next e, hX]
  · obtain ⟨kG, hxl, hX⟩ := hG
    have hll : (ledL ord ws).length = ord.length := by unfold ledL; rw [List.length_map]
    rw [List.length_map] at hxl hX
    rw [← hll, List.take_length] at hX
    subst hX
    refine ⟨by omega, fun z nz => ?_⟩
    exact q _ z (kG.trans (Ke.new nz)) (kG.dom _ nz) upd_same
theorem ok_ties_by_forest {P : Program} {w : World} {K : PySem.W.Frag} {mg : Str → Option Value} {base : Heap} {tb : List Addr} {f : Addr} {fd : FuncData} (T : Blt mg) (D_ties_by_forest : DefAt K mg "ties_by_forest" s_ties_by_forest ["laying"] f fd) (XC : Xcs xfs K mg) :
    FnOk P w K mg base CX0 1 f fd ["laying"] (sp_ties_by_forest K tb) := by
  refine D_ties_by_forest.ok sc_ties_by_forest (fun vs H Q E h => by
    obtain ⟨u, ws, rfl, hu, hO, hlen, q⟩ := h
    all_goals rfl) fun A outer s H vs Q E hr h => ?_
  obtain ⟨u, ws, rfl, hu, hO, hlen, q⟩ := h
  refine ⟨_, pss_cons (ps_set (i := 1) sc_ties_by_forest.nd rfl (.inl rfl) (pe_dnewK))
     (pss_cons (ps_for PassesOwn.never rfl (pi_enumT (K := K) (by rfl) T.b_enumerate (pa_cons (pv 0) pa_nil)) (tgtK (K := K) (n := 2) (pgs_cons (pg_name (i := 2) sc_ties_by_forest.nd rfl (.inl rfl)) (pgs_cons (pg_name (i := 3) sc_ties_by_forest.nd rfl (.inl rfl)) pgs_nil)))
     (pss_one (ps_if (pt_cmpR op_notN (pv 3) (pe_non) (nomark _))
     (pss_one (ps_expr (pe_bm PySem.F.plainAttrs_list PySem.F.slot_list_append PySem.F.type_list_append mt_append (pe_dsetd (pv 1) (pv 3) (pe_lst pa_nil) ⟨rfl, rfl, rfl, rfl⟩) (pa_cons (pv 2) pa_nil))))
     (pss_nil))))
     (pss_one (ps_ret (pv 1)))), ?_⟩
  have LB := line_big
  refine fun d nd => ?_
  refine ⟨_, rfl, u, ws, rfl, sqT_of (tup_new nd hu), ?_⟩
  refine for_it (walk_enumT (K := K) (a := u) (xs := ws)) (fun i σ G => ∃ (y2 y3 : Option V) (fl : List (Int × Addr)), σ = [some (.ref u), some (.ref d), y2, y3] ∧ Ke H G ∧ G d = some (.dK (kvF fl)) ∧ Byf G (ws.take i) fl ∧ fl.length ≤ i ∧ ∀ p ∈ fl, H p.2 = none) ⟨_, _, [], rfl, Ke.new nd, upd_same, ⟨List.nodup_nil, List.nodup_nil, (fun _ z => nomatch z), fun f => ⟨(fun z => nomatch z), (fun z => nomatch z)⟩⟩, Nat.le_refl _, fun _ z => nomatch z⟩ (fun i σ G _ hG => ?_) (fun i x σ G G1 hi hG hy => ?_) (fun σ G hG => ?_)
  · obtain ⟨_, _, _, _, kG, _⟩ := hG
    exact sqT_of (kG.tup hu)
  · obtain ⟨y2, y3, fl, rfl, kG, gd, hB, hfl, hfr⟩ := hG
    obtain ⟨T1, z1, z2, rfl, nT, rfl, e1, e2⟩ := hy
    have e1 : some (V.int (i : Int)) = some z1 := e1
    have e2 : ws[i]? = some z2 := e2
    cases e1
    have en := take_next e2
    have hti : (ws.take i).length = i := by rw [List.length_take]; omega
    have kT : Ke G (upd G T1 (.tup [.int (i : Int), z2])) := Ke.new nT
    have hT1 : upd G T1 (.tup [.int (i : Int), z2]) T1 = some (.tup [.int (i : Int), z2]) := upd_same
    obtain ⟨G2, eG2⟩ : ∃ G2, G2 = upd G T1 (.tup [.int (i : Int), z2]) := ⟨_, rfl⟩
    rw [← eG2] at kT hT1 ⊢
    have gd2 : G2 d = some (.dK (kvF fl)) := kT.at_ _ _ gd (fun _ z => nomatch z) fun z => z
    have hB2 := hB.ke kT
    have k2 : Ke H G2 := kG.trans kT
    refine ⟨T1, _, rfl, sqT_of hT1, rfl, _, _, rfl, _, [], rfl, rfl, ?_⟩
    refine ⟨_, rfl, rfl, _, rfl, iteB (fun hb => ?_) (fun hb => ?_)⟩
    · obtain ⟨f1, rfl⟩ : ∃ f1, z2 = .int f1 := by
        rcases hO z2 (List.mem_of_getElem? e2) with z | z
        · rw [z] at hb
          cases hb
        · exact z
      refine ⟨_, rfl, d, rfl, .inl ⟨_, .inl gd2⟩, _, rfl, by show 0 ≤ sizeLine; decide, fun z nz => ?_⟩
      have gd3 : upd G2 z (.lst []) d = some (.dK (kvF fl)) := by rw [upd_ne (ne_of_none gd2 nz)]; exact gd2
      have hB3 : Byf (upd G2 z (.lst [])) (ws.take i) fl := hB2.ke (Ke.new nz)
      have k3 : Ke H (upd G2 z (.lst [])) := k2.trans (Ke.new nz)
      have nzH : H z = none := k2.dom _ nz
      have nzf : z ∉ fl.map Prod.snd := fun w => by
        obtain ⟨p, hp, ep⟩ := List.mem_map.mp w
        have := hB2.each p hp
        rw [ep, nz] at this
        cases this
      have ndf : d ∉ fl.map Prod.snd := fun w => by
        obtain ⟨p, hp, ep⟩ := List.mem_map.mp w
        have := hB2.each p hp
        rw [ep, gd2] at this
        cases this
      have ndz : d ≠ z := ne_of_none gd2 nz
      refine ⟨kvF fl, .inl f1, gd3, rfl, by rw [kvF_length]; omega, fun v hv => ?_, fun hv => ?_⟩
      · have hmf : f1 ∈ fl.map Prod.fst := by
          by_cases c : f1 ∈ fl.map Prod.fst
          · exact c
          · rw [val_out c] at hv
            cases hv
        obtain ⟨⟨f2, q2⟩, hp, rfl⟩ := List.mem_map.mp hmf
        rw [val_in hB3.nd hp] at hv
        cases hv
        have gq := hB3.each _ hp
        have nqd : d ≠ q2 := fun w => ndf (w ▸ List.mem_map.mpr ⟨_, hp, rfl⟩)
        refine ⟨.inl ⟨rfl, _, sqL_of gq⟩, _, rfl, q2, _, _, rfl, rfl, gq, ?_, ?_⟩
        · rw [List.length_map]
          have := nums_length f2 0 (ws.take i)
          dsimp only at this ⊢
          omega
        · have hm := hB3.more hp
          rw [hti] at hm
          refine ⟨_, _, fl, rfl, k3.over (hfr _ hp), ?_, ?_, by omega, hfr⟩
          · rw [upd_ne nqd]
            exact gd3
          · rw [en]
            exact hm
      · have hmf : f1 ∉ fl.map Prod.fst := fun c => by
          obtain ⟨⟨f2, q2⟩, hp, rfl⟩ := List.mem_map.mp c
          rw [val_in hB3.nd hp] at hv
          cases hv
        rw [put_out hmf]
        have gz4 : upd (upd G2 z (.lst [])) d (.dK (kvF (fl ++ [(f1, z)]))) z = some (.lst []) := by rw [upd_ne ndz.symm]; exact upd_same
        refine ⟨.inl ⟨rfl, _, sqL_of gz4⟩, _, rfl, z, _, _, rfl, rfl, gz4, by show 0 < sizeLine; decide, ?_⟩
        have hm := (hB3.off (o := .dK (kvF (fl ++ [(f1, z)]))) ndf).first hmf nzf
        rw [hti] at hm
        refine ⟨_, _, fl ++ [(f1, z)], rfl, (k3.over nd).over nzH, ?_, ?_, by rw [List.length_append]; exact Nat.succ_le_succ hfl, fun p hp => ?_⟩
        · rw [upd_ne ndz]
          exact upd_same
        · rw [en]
          exact hm
        · rcases List.mem_append.mp hp with hp | hp
          · exact hfr p hp
          · rw [List.mem_singleton.mp hp]
            exact nzH
    · have hz : z2 = .non := by
        rcases hO z2 (List.mem_of_getElem? e2) with z | ⟨z, w⟩
        · exact z
        · rw [w] at hb
          cases hb
      rw [hz] at en
      exact ⟨_, _, fl, rfl, k2, gd2, by rw [en]; exact hB2.skip, by omega, hfr⟩
  · obtain ⟨_, _, fl, rfl, kG, gd, hB, _, _⟩ := hG
    rw [List.take_length] at hB
    exact ⟨_, rfl, q G d fl kG nd gd hB⟩
theorem ok_right_laying {P : Program} {w : World} {K : PySem.W.Frag} {mg : Str → Option Value} {base : Heap} {tb : List Addr} {f : Addr} {fd : FuncData} {f_is_number : Addr} {fd_is_number : FuncData} {f_ringless : Addr} {fd_ringless : FuncData} {f_ties_by_forest : Addr} {fd_ties_by_forest : FuncData} (T : Blt mg) (D_right_laying : DefAt K mg "right_laying" s_right_laying ["web", "k", "thing"] f fd) (XC : Xcs xfs K mg) (D_is_number : DefAt K mg "is_number" s_is_number ["thing", "least", "most"] f_is_number fd_is_number) (G_is_number : FnOk P w K mg base CX0 1 f_is_number fd_is_number ["thing", "least", "most"] (sp_is_number K tb)) (D_ringless : DefAt K mg "ringless" s_ringless ["web", "ties"] f_ringless fd_ringless) (G_ringless : FnOk P w K mg base CX0 3 f_ringless fd_ringless ["web", "ties"] (sp_ringless K tb)) (D_ties_by_forest : DefAt K mg "ties_by_forest" s_ties_by_forest ["laying"] f_ties_by_forest fd_ties_by_forest) (G_ties_by_forest : FnOk P w K mg base CX0 1 f_ties_by_forest fd_ties_by_forest ["laying"] (sp_ties_by_forest K tb)) {c Pt : Addr} (TB : LamX.TabB base mg c Pt) (hcd : fd.code = .ref c) (hPt : Pt ∈ tb) :
    FnOk P w K mg base CX0 7 f fd ["web", "k", "thing"] (sp_right_laying K tb) := by
  refine D_right_laying.ok sc_right_laying (fun vs H Q E h => by
    obtain ⟨v, t, n, ts, k, o, rfl, W, ht, hok, hn0, hn1, hlen, hT0, q⟩ := h
    all_goals rfl) fun A outer s H vs Q E hr h => ?_
  obtain ⟨v, t, n, ts, k, o, rfl, W, ht, hok, hn0, hn1, hlen, hT0, q⟩ := h
  refine ⟨_, pss_cons (ps_if (PW.pt (pw_or (pt_not (pt_val (pe_callB (isiK (K := K)) (by rfl) T.b_isinstance (by decide +kernel) (pa_cons (pv 2) (pa_cons (pe_bltn (v := .ty "tuple") (u := .type "tuple") (by rfl) T.b_tuple (by decide +kernel) rfl) pa_nil))))) (pw_or1 (pt_cmpR op_ne (pe_callB (lenK (K := K)) (by rfl) T.b_len PySem.boot_len (pa_cons (pv 2) pa_nil)) (pe_callB (lenK (K := K)) (by rfl) T.b_len PySem.boot_len (pa_cons (pe_ix (ix_tupK (K := K)) (pv 0) (pe_int) (fun _ _ => rfl)) pa_nil)) (nomark _)))))
     (pss_one (ps_ret (pe_bl)))
     (pss_nil))
     (pss_cons (ps_if (pt_not (pt_val (pe_all (k := 1) (vs := [1]) (hr.mono (by decide)) (by rfl) T.b_all (by decide +kernel) TB hcd (gxs_of (XN := nm_right_laying) (xsc := defScope s_right_laying) (N := ["k", "entry"]) (src := [some 1, none]) (by decide +kernel)) (pi_tup (pv 2)) ⟨fun _ _ _ _ _ _ => pg_name (i := 1) gnd_right_laying_0 rfl (.inl rfl), fun _ _ _ _ _ _ hz => pts_nil, fun _ _ _ _ _ _ hz => pe_or (pe_cmpR op_isN (pv 1) (pe_non) (nomark _)) (pe_one (pe_call G_is_number (hz.mono (by decide)) (by rfl) D_is_number.g D_is_number.F.kp D_is_number.b .nil pass0 (pa_cons (pv 1) (pa_cons (pe_int) (pa_cons (pe_op op_sub (pv 0) (pe_int)) pa_nil)))))⟩)))
     (pss_one (ps_ret (pe_bl)))
     (pss_nil))
     (pss_cons (ps_set (i := 3) sc_right_laying.nd rfl (.inl rfl) (pe_call G_ties_by_forest (hr.mono (by decide)) (by rfl) D_ties_by_forest.g D_ties_by_forest.F.kp D_ties_by_forest.b .nil pass0 (pa_cons (pv 2) pa_nil)))
     (pss_one (ps_ret (pe_lock (pe_all (k := 3) (vs := [1]) (hr.mono (by decide)) (by rfl) T.b_all (by decide +kernel) TB hcd (gxs_of (XN := nm_right_laying) (xsc := defScope s_right_laying) (N := ["web", "numbers"]) (src := [some 0, none]) (by decide +kernel)) (pi_values (pv 3)) ⟨fun _ _ _ _ _ _ => pg_name (i := 1) gnd_right_laying_1 rfl (.inl rfl), fun _ _ _ _ _ _ hz => pts_nil, fun _ _ _ _ _ _ hz => pe_call G_ringless (hz.mono (by decide)) (by rfl) D_ringless.g D_ringless.F.kp D_ringless.b .nil pass0 (pa_cons (pv 0) (pa_cons (pv 1) pa_nil))⟩)))))), ?_⟩
  obtain ⟨tw, u, rs, rfl, htw, hu, hT⟩ := id W
  have hrl := hT.length
  cases ht with
  | @no _ nm h hn =>
    refine ⟨_, rfl, t, _, _, _, _, rfl, .ty _, h.x, h.isi (.inr (.inr (.inl rfl))), _, rfl, ?_⟩
    have e : isiB nm "tuple" = false := by cases h <;> first | rfl | exact absurd rfl hn
    rw [e]
    exact iteT (iteT (q H .refl))
  | @yes a ws h hx =>
    refine ⟨_, rfl, _, _, _, _, true, rfl, .ty _, (TyN.tup h).x, (TyN.tup h).isi (.inr (.inr (.inl rfl))), true, rfl, iteF ?_⟩
    refine ⟨_, rfl, a, _, rfl, .inr (sqT_of h), _, rfl, tw, _, 1, _, rfl, rfl, sqT_of htw, atI_nat (j := 1) rfl, u, _, rfl, .inr (sqT_of hu), rfl, _, rfl, ?_⟩
    refine iteB (fun hb => ?_) (fun hb => ?_)
    · have hne : ws.length ≠ ts.length := fun z => by
        have hb : (!decide (V.int (ws.length : Int) = V.int (rs.length : Int))) = true := hb
        rw [hrl, z, decide_eq_true rfl] at hb
        cases hb
      have q0 := q H .refl
      rw [layO_len hne] at q0
      exact q0
    have hl : ws.length = ts.length := by
      have hb : (!decide (V.int (ws.length : Int) = V.int (rs.length : Int))) = false := hb
      rw [decide_int] at hb
      by_cases z : (ws.length : Int) = (rs.length : Int)
      · omega
      · rw [decide_eq_false z] at hb
        cases hb
    refine ⟨_, rfl, a, rfl, ⟨_, sqT_of h⟩, hT0 _ hPt, fun H2 htb => ?_⟩
    have k2 := Ke.tabd (hT0 _ hPt) htb
    refine gx_all (walk_tup (K := K) (a := a) (xs := ws)) (fun i G => G = H2 ∧ ∀ x ∈ ws.take i, okE k x = true) ⟨rfl, fun _ z => nomatch z⟩ (fun i G _ hG => by rw [hG.1]; exact sqT_of (k2.tup h)) (fun i x G G' hi hG hy => ?_) (fun G hG => ?_)
    · obtain ⟨rfl, ho⟩ := hG
      obtain ⟨rfl, hxi⟩ := hy
      have hxm := List.mem_of_getElem? hxi
      obtain ⟨nm, hty⟩ := hx x hxm
      refine ⟨rfl, yes_ite ?_⟩
      refine ⟨_, rfl, rfl, _, rfl, iteB (fun hb => ?_) (fun hb => ?_)⟩
      · have hb : x = .non := of_decide_eq_true hb
        subst hb
        refine ⟨_, rfl, rfl, fun y hy => ?_⟩
        rw [take_next hxi] at hy
        rcases List.mem_append.mp hy with hy | hy
        · exact ho y hy
        · rw [List.mem_singleton.mp hy]
          rfl
      · have hb : ¬ x = .non := of_decide_eq_false hb
        have eo : okE k x = isNum x 0 (k - 1) := by
          cases x with
          | non => exact absurd rfl hb
          | _ => rfl
        have hty2 : TyN G' x nm := by
          cases hty with
          | non => exact .non
          | bl b => exact .bl b
          | int i => exact .int i
          | str z => exact .str z
          | lst h => exact .lst (k2.lst h)
          | tup h => exact .tup (k2.tup h)
          | dic h => exact .dic (k2.at_ _ _ h (fun _ z => nomatch z) fun z => z)
        refine ⟨_, rfl, _, rfl, _, _, rfl, rfl, x, 0, k - 1, nm, rfl, hty2, _, rfl, ?_⟩
        by_cases e : isNum x 0 (k - 1) = true
        · rw [e, if_neg (by decide)]
          refine ⟨rfl, fun y hy => ?_⟩
          rw [take_next hxi] at hy
          rcases List.mem_append.mp hy with hy | hy
          · exact ho y hy
          · rw [List.mem_singleton.mp hy, eo, e]
        · have e : isNum x 0 (k - 1) = false := by simpa using e
          rw [e, if_pos rfl]
          have q0 := q _ k2
          rw [layO_bad hxm (eo.trans e)] at q0
          exact ⟨_, rfl, iteT q0⟩
    · obtain ⟨rfl, ho⟩ := hG
      rw [List.take_length] at ho
      refine ⟨_, rfl, iteF ?_⟩
      refine ⟨_, rfl, a, ws, rfl, k2.tup h, fun x hx => okE_O (ho x hx), by omega, fun H3 d fl k3 nd gd hB => ?_⟩
      have kH3 : Ke H H3 := k2.trans k3
      have ndH : H d = none := k2.dom _ nd
      have ndf : d ∉ fl.map Prod.snd := fun z => by
        obtain ⟨p, hp, e⟩ := List.mem_map.mp z
        have h1 := hB.each p hp
        rw [e, gd] at h1
        cases h1
      refine ⟨d, _, gd, trivial, fun od => ?_⟩
      have kB : Ke H (upd H3 d (.frz od (.dK (kvF fl)))) := kH3.over ndH
      have B1 := hB.off (o := .frz od (.dK (kvF fl))) ndf
      have gB : (upd H3 d (.frz od (.dK (kvF fl)))) d = some (.frz od (.dK (kvF fl))) := upd_same
      obtain ⟨B, eB⟩ : ∃ B, B = upd H3 d (.frz od (.dK (kvF fl))) := ⟨_, rfl⟩
      rw [← eB] at kB B1 gB ⊢
      refine ⟨_, rfl, d, od, _, rfl, gB, kB.tab _ (hT0 _ hPt), fun B2 htb2 => ?_⟩
      have kB2 : Ke B B2 := Ke.tabd (kB.tab _ (hT0 _ hPt)) htb2
      refine gx_all (walk_values (d := d) (o := od) (kvs := kvF fl)) (fun i G => Ke B G ∧ ∀ p ∈ fl.take i, ringlessF (fun x => x) (layerOf ts ws p.1) = true) ⟨kB2, fun _ z => nomatch z⟩ (fun i G _ hG => hG.1.at_ _ _ gB (fun _ z => nomatch z) fun z => z) (fun i x G G' hi hG hy => ?_) (fun G hG => ?_)
      · obtain ⟨kG, hF⟩ := hG
        obtain ⟨rfl, kk, hkx⟩ := hy
        unfold kvF at hkx
        rw [List.getElem?_map] at hkx
        cases ep : fl[i]? with
        | none => rw [ep] at hkx; cases hkx
        | some pr =>
          rw [ep] at hkx
          cases hkx
          have hpm := List.mem_of_getElem? ep
          have hfm : V.int pr.1 ∈ ws := (hB.mem pr.1).mpr (List.mem_map.mpr ⟨pr, hpm, rfl⟩)
          have epk : pick ts (numsFrom pr.1 0 ws) = layerOf ts ws pr.1 := pick_nums pr.1 [] ts ws hl.symm
          refine ⟨rfl, yes_ite ?_⟩
          refine ⟨_, rfl, _, rfl, .ref tw, n, ts, pr.2, numsFrom pr.1 0 ws, rfl, W.ke (kB.trans kG), .inl (kG.lst (B1.each pr hpm)), hok, hn0, hn1, fun m hm => ?_, fun G2 kG2 => ?_⟩
          · have := nums_bd pr.1 0 ws m hm
            omega
          · rw [epk]
            refine ⟨_, rfl, ?_⟩
            by_cases e : ringlessF (fun x => x) (layerOf ts ws pr.1) = true
            · rw [e, if_neg (by decide)]
              refine ⟨kG.trans kG2, fun y hy => ?_⟩
              rw [take_next ep] at hy
              rcases List.mem_append.mp hy with hy | hy
              · exact hF y hy
              · rw [List.mem_singleton.mp hy]
                exact e
            · have e : ringlessF (fun x => x) (layerOf ts ws pr.1) = false := by simpa using e
              rw [e, if_pos rfl]
              refine ⟨(kG.trans kG2).at_ _ _ gB (fun _ z => nomatch z) fun z => z, ?_⟩
              have q0 := q _ ((kB.trans (kG.trans kG2)).over (o := .dK (kvF fl)) ndH)
              rw [layO_ring hfm e] at q0
              exact q0
      · obtain ⟨kG, hF⟩ := hG
        rw [kvF_length, List.take_length] at hF
        refine ⟨kG.at_ _ _ gB (fun _ z => nomatch z) fun z => z, ?_⟩
        have q0 := q _ ((kB.trans kG).over (o := .dK (kvF fl)) ndH)
        rw [layO_good hl ho fun f hf => ?_] at q0
        · exact q0
        · obtain ⟨pr, hp, e⟩ := List.mem_map.mp ((hB.mem f).mp hf)
          rw [← e]
          exact hF pr hp
theorem posM : (0 : Int) < 2305843009213693951 := by decide
theorem modM (x : Int) : 0 ≤ x % 2305843009213693951 ∧ x % 2305843009213693951 < 2305843009213693951 := ⟨Int.emod_nonneg _ (by decide), Int.emod_lt_of_pos _ (by decide)⟩
theorem ok__law_mixed {P : Program} {w : World} {K : PySem.W.Frag} {mg : Str → Option Value} {base : Heap} {tb : List Addr} {f : Addr} {fd : FuncData} (T : Blt mg) (D__law_mixed : DefAt K mg "_law_mixed" s_law_mixed ["_law_cell", "_law_k"] f fd) (XC : Xcs xfs K mg) :
    FnOk P w K mg base CX0 1 f fd ["_law_cell", "_law_k"] (sp__law_mixed K tb) := by
  refine D__law_mixed.ok sc__law_mixed (fun vs H Q E h => by
    obtain ⟨c, k, rfl, hk0, hk1, q⟩ := h
    all_goals rfl) fun A outer s H vs Q E hr h => ?_
  obtain ⟨c, k, rfl, hk0, hk1, q⟩ := h
  refine ⟨_, pss_cons (ps_set (i := 2) sc__law_mixed.nd rfl (.inl rfl) (pe_op op_mod (pe_op op_add (pe_op op_add (pv 0) (pe_op op_mul (pe_op op_mul (pv 1) (pv 1)) (pe_int))) (pe_int)) (pe_int)))
     (pss_cons (ps_set (i := 2) sc__law_mixed.nd rfl (.inl rfl) (pe_op op_mod (pe_op op_mul (pv 2) (pv 2)) (pe_int)))
     (pss_cons (ps_set (i := 2) sc__law_mixed.nd rfl (.inl rfl) (pe_op op_mod (pe_op op_mul (pe_op op_add (pe_op op_add (pv 2) (pe_op op_mul (pv 1) (pe_int))) (pe_int)) (pe_int)) (pe_int)))
     (pss_one (ps_ret (pe_op op_fdiv (pe_op op_mod (pe_op op_mul (pv 2) (pv 2)) (pe_int)) (pe_int)))))), ?_⟩
  refine ⟨_, rfl, _, rfl, _, rfl, _, _, rfl, rfl, .inl ⟨by omega, by omega⟩, _, _, rfl, rfl, .inr ⟨by decide, by decide⟩, _, _, rfl, rfl, _, _, rfl, rfl, _, _, rfl, rfl, posM, ?_⟩
  obtain ⟨x0, x1⟩ := modM (c + k * k * 40503 + 12345)
  refine ⟨_, rfl, _, rfl, _, _, rfl, rfl, .inl ⟨by omega, by omega⟩, _, _, rfl, rfl, posM, ?_⟩
  obtain ⟨y0, y1⟩ := modM ((c + k * k * 40503 + 12345) % 2305843009213693951 * ((c + k * k * 40503 + 12345) % 2305843009213693951))
  generalize (c + k * k * 40503 + 12345) % 2305843009213693951 * ((c + k * k * 40503 + 12345) % 2305843009213693951) = y at *
  refine ⟨_, rfl, _, rfl, _, _, rfl, rfl, .inl ⟨by omega, by omega⟩, _, _, rfl, rfl, _, _, rfl, rfl, _, _, rfl, rfl, .inl ⟨by omega, by omega⟩, _, _, rfl, rfl, posM, ?_⟩
  obtain ⟨z0, z1⟩ := modM ((y % 2305843009213693951 + k * 7919 + 1) * 48271)
  refine ⟨_, rfl, _, rfl, _, _, rfl, rfl, .inl ⟨by omega, by omega⟩, _, _, rfl, rfl, posM, _, _, rfl, rfl, ⟨by decide, by decide⟩, ?_⟩
  exact q _ (Int.ediv_nonneg (Int.emod_nonneg _ (by decide)) (by decide))
theorem own_list (ns : List Int) : ∃ own : List Int, cutV (ns.map V.int) none (some 60) ++ (List.replicate (Int.toNat (if decide (V.int ((ns.map V.int).length : Int) = V.int 0) = true then 1 else 0)) [V.int 0]).flatten = own.map V.int ∧ 0 < own.length ∧ own.length ≤ 60 := by
  have e : cutV (ns.map V.int) none (some 60) = (ns.take 60).map V.int := by
    rw [show (some (60 : Int)) = some ((60 : Nat) : Int) from rfl, cut_to, List.map_take]
  rw [e]
  cases ns with
  | nil => exact ⟨[0], rfl, by decide, by decide⟩
  | cons x r =>
    have d : decide (V.int (((x :: r).map V.int).length : Int) = V.int 0) = false := decide_eq_false fun z => by
      have z := V.int.inj z
      rw [List.length_map, List.length_cons] at z
      omega
    rw [d]
    refine ⟨(x :: r).take 60, by simp, by simp, by rw [List.length_take]; omega⟩
theorem p1000 : (0 : Int) < 1000 := by decide
theorem ok__law_deck {P : Program} {w : World} {K : PySem.W.Frag} {mg : Str → Option Value} {base : Heap} {tb : List Addr} {f : Addr} {fd : FuncData} {f__law_mixed : Addr} {fd__law_mixed : FuncData} (T : Blt mg) (D__law_deck : DefAt K mg "_law_deck" s_law_deck ["_law_script", "_law_many"] f fd) (XC : Xcs xfs K mg) (D__law_mixed : DefAt K mg "_law_mixed" s_law_mixed ["_law_cell", "_law_k"] f__law_mixed fd__law_mixed) (G__law_mixed : FnOk P w K mg base CX0 1 f__law_mixed fd__law_mixed ["_law_cell", "_law_k"] (sp__law_mixed K tb)) :
    FnOk P w K mg base CX0 2 f fd ["_law_script", "_law_many"] (sp__law_deck K tb) := by
  refine D__law_deck.ok sc__law_deck (fun vs H Q E h => by
    obtain ⟨a, ns, n, rfl, hS, hlen, hn0, hn1, q⟩ := h
    all_goals rfl) fun A outer s H vs Q E hr h => ?_
  obtain ⟨a, ns, n, rfl, hS, hlen, hn0, hn1, q⟩ := h
  refine ⟨_, pss_cons (ps_set (i := 2) sc__law_deck.nd rfl (.inl rfl) (pe_op op_cat (pe_callTy (listK (K := K)) (by rfl) T.b_list (by decide +kernel) (pa_cons (pe_slice (sl_listK (K := K)) (pv 0) po_none (po_some (pe_int))) pa_nil)) (pe_op op_rep (pe_lst (pa_cons (pe_int) pa_nil)) (pe_callTy call_int1 (by rfl) T.b_int (by decide +kernel) (pa_cons (pe_cmpR op_eq (pe_callB (lenK (K := K)) (by rfl) T.b_len PySem.boot_len (pa_cons (pv 0) pa_nil)) (pe_int) (nomark _)) pa_nil)))))
     (pss_cons (ps_setLc (i := 4) (own := [("_law_cell", 3)]) rfl sc__law_deck.nd rfl rfl (sw_true rfl rfl rfl (by decide +kernel)) (pi_list (pv 2)) (blkOk_by (own := [("_law_cell", 3)]) (N := nm__law_deck) (sc := defScope s_law_deck) (by decide +kernel)) (fun _ _ _ _ _ => pg_name (i := 3) sc__law_deck.nd rfl (.inl rfl)) (fun _ _ _ _ _ => pts_nil) (fun _ _ _ _ _ => pe_op op_mul (pv 3) (pe_callTy call_int1 (by rfl) T.b_int (by decide +kernel) (pa_cons (pe_cmpR op_ge (pv 3) (pe_op op_pow (pe_int) (pe_int)) (nomark _)) pa_nil))))
     (pss_cons (ps_set (i := 5) sc__law_deck.nd rfl (.inl rfl) (pe_lst pa_nil))
     (pss_cons (ps_for PassesOwn.never rfl (pi_range1 (by rfl) T.b_range (pa_cons (pv 1) pa_nil)) (pg_name (i := 6) sc__law_deck.nd rfl (.inl rfl))
     (pss_cons (ps_set (i := 7) sc__law_deck.nd rfl (.inl rfl) (pe_op op_mod (pv 6) (pe_callB (lenK (K := K)) (by rfl) T.b_len PySem.boot_len (pa_cons (pv 2) pa_nil))))
     (pss_one (ps_if (pt_cmpR op_gt (pe_ix (ix_listK (K := K)) (pv 4) (pv 7) (fun _ _ => rfl)) (pe_int) (nomark _))
     (pss_cons (ps_expr (pe_bm PySem.F.plainAttrs_list PySem.F.slot_list_append PySem.F.type_list_append mt_append (pv 5) (pa_cons (pe_op op_mod (pe_ix (ix_listK (K := K)) (pv 4) (pv 7) (fun _ _ => rfl)) (pe_int)) pa_nil)))
     (pss_one (ps_asg (pe_op op_fdiv (pe_ix (ix_listK (K := K)) (pv 4) (pv 7) (fun _ _ => rfl)) (pe_int)) (pg_sub (pv 4) (pv 7) set_list))))
     (pss_one (ps_expr (pe_bm PySem.F.plainAttrs_list PySem.F.slot_list_append PySem.F.type_list_append mt_append (pv 5) (pa_cons (pe_op op_mod (pe_call G__law_mixed (hr.mono (by decide)) (by rfl) D__law_mixed.g D__law_mixed.F.kp D__law_mixed.b .nil pass0 (pa_cons (pe_ix (ix_listK (K := K)) (pv 2) (pv 7) (fun _ _ => rfl)) (pa_cons (pe_op op_add (pv 6) (pe_int)) pa_nil))) (pe_int)) pa_nil))))))))
     (pss_one (ps_ret (pe_listRev rfl (by rfl) T.b_list (by rfl) T.b_reversed (pv 5))))))), ?_⟩
  -- own
  refine ⟨_, rfl, 60, rfl, a, _, rfl, hS, fun c nc => ?_⟩
  refine ⟨c, _, rfl, .inl (sqL_of upd_same), fun l nl => ?_⟩
  have k1 : Ke H (upd (upd H c (.lst (cutV (ns.map V.int) none (some 60)))) l (.lst (cutV (ns.map V.int) none (some 60)))) := (Ke.new nc).trans (Ke.new nl)
  have hl1 : (upd (upd H c (.lst (cutV (ns.map V.int) none (some 60)))) l (.lst (cutV (ns.map V.int) none (some 60)))) l = some (.lst (cutV (ns.map V.int) none (some 60))) := upd_same
  generalize (upd (upd H c (.lst (cutV (ns.map V.int) none (some 60)))) l (.lst (cutV (ns.map V.int) none (some 60)))) = Ha at *
  have hla : (ns.map V.int).length = ns.length := List.length_map ..
  refine ⟨by decide, fun z nz => ?_⟩
  refine ⟨_, rfl, a, _, rfl, .inl ((k1.trans (Ke.new nz)).seqL hS (fun z => z)), rfl, .inr ⟨_, rfl, ?_⟩⟩
  refine ⟨z, _, _, rfl, rfl, upd_same, by split <;> decide, by split <;> decide, by split <;> decide, fun r nr => ?_⟩
  have k2 : Ke Ha (upd (upd Ha z (.lst [.int 0])) r (.lst (List.replicate (Int.toNat (if decide (V.int ((ns.map V.int).length : Int) = V.int 0) then 1 else 0)) [V.int 0]).flatten)) := (Ke.new nz).trans (Ke.new nr)
  have hcl : (cutV (ns.map V.int) none (some 60)).length ≤ 63 := Nat.le_trans (cutV_length _ _ _) (by omega)
  obtain ⟨own, eown, hown0, hown1⟩ := own_list ns
  refine ⟨l, r, _, _, rfl, rfl, k2.lst hl1, upd_same, ?_, fun o no => ?_⟩
  · rw [← List.length_append, eown, List.length_map]
    have := line_big
    omega
  rw [eown]
  have k3 := (k1.trans k2).trans (Ke.new (S := fun _ => False) (o := .lst (own.map V.int)) no)
  have ho : upd (upd (upd Ha z (.lst [.int 0])) r (.lst (List.replicate (Int.toNat (if decide (V.int ((ns.map V.int).length : Int) = V.int 0) = true then 1 else 0)) [V.int 0]).flatten)) o (.lst (own.map V.int)) o = some (.lst (own.map V.int)) := upd_same
  generalize upd (upd (upd Ha z (.lst [.int 0])) r (.lst (List.replicate (Int.toNat (if decide (V.int ((ns.map V.int).length : Int) = V.int 0) = true then 1 else 0)) [V.int 0]).flatten)) o (.lst (own.map V.int)) = Hb at *
  -- rest
  refine ⟨_, rfl, o, rfl, ⟨_, sqL_of ho⟩, fun D hD => ?_⟩
  refine lc_list (K := K) (a := o) (xs := own.map V.int) (fun i G => ∃ rs : List Int, rs.length = i ∧ G = upd Hb D (.lst (rs.map V.int))) ⟨[], rfl, rfl⟩ (fun i G _ hG => ?_) (fun i x G hx hG => ?_) (fun G hG => ?_)
  · obtain ⟨rs, _, rfl⟩ := hG
    exact sqL_of (by rw [upd_ne (ne_of_none ho hD)]; exact ho)
  · obtain ⟨rs, hrs, rfl⟩ := hG
    obtain ⟨v, hv, rfl⟩ : ∃ v, own[i]? = some v ∧ x = .int v := by
      rw [List.getElem?_map] at hx
      cases e : own[i]? with
      | none => rw [e] at hx; cases hx
      | some v => rw [e] at hx; exact ⟨v, rfl, (Option.some.inj hx).symm⟩
    have hi : i < own.length := (List.getElem?_eq_some_iff.mp hv).1
    refine ⟨rfl, yes_ite ?_⟩
    refine ⟨_, rfl, _, rfl, _, _, rfl, rfl, ⟨by decide, by decide, by decide⟩, _, _, rfl, rfl, .inr ⟨_, rfl, _, _, rfl, rfl, .inr ⟨by split <;> decide, by split <;> decide⟩, _, upd_same, ?_, ?_⟩⟩
    · rw [List.length_map]
      have := line_big
      omega
    · rw [upd_upd]
      exact ⟨rs ++ [_], by rw [List.length_append, hrs]; rfl, by rw [List.map_append]; rfl⟩
  · obtain ⟨rs, hrs, rfl⟩ := hG
    rw [List.length_map] at hrs
    -- the deck
    have k4 := k3.over (o := .lst (rs.map V.int)) (k3.dom _ hD)
    have ho4 : upd Hb D (.lst (rs.map V.int)) o = some (.lst (own.map V.int)) := by rw [upd_ne (ne_of_none ho hD)]; exact ho
    refine ⟨Nat.zero_le _, fun p np => ?_⟩
    obtain ⟨npD, np0⟩ := upd_none np
    have nHD := k3.dom _ hD
    have nHp := k3.dom _ np0
    refine ⟨_, rfl, n, rfl, by omega, by omega, ?_⟩
    refine for_range (n := n.toNat) (fun i σ G => ∃ (y6 y7 : Option V) (ds rs : List Int), σ = [some (.ref a), some (.int n), some (.ref o), none, some (.ref D), some (.ref p), y6, y7] ∧ Ke H G ∧ G o = some (.lst (own.map V.int)) ∧ G D = some (.lst (rs.map V.int)) ∧ rs.length = own.length ∧ G p = some (.lst (ds.map V.int)) ∧ ds.length = i ∧ Dig ds)
      ⟨none, none, [], rs, rfl, k4.over nHp, by rw [upd_ne (ne_of_none ho4 np)]; exact ho4, by rw [upd_ne npD.symm, upd_same], hrs, upd_same, rfl, fun _ z => nomatch z⟩ (fun i σ G hi hG => ?_) (fun σ G hG => ?_)
    · obtain ⟨y6, y7, ds, rs, rfl, kG, go, gD, hrs, gp, hds, hdig⟩ := hG
      have m0 := emod_bds (0 + (i : Int)) (n := own.length) (by omega)
      have hol : ((own.map V.int).length : Int) = own.length := by rw [List.length_map]
      refine ⟨_, rfl, _, rfl, o, _, rfl, .inl (sqL_of go), _, _, rfl, rfl, by rw [hol]; omega, ?_⟩
      rw [hol]
      obtain ⟨v, _, _, ev⟩ := at_int (xs := rs) m0.1 (by rw [hrs]; exact m0.2)
      obtain ⟨u, _, _, eu⟩ := at_int (xs := own) m0.1 m0.2
      have npo : o ≠ p := ne_of_none ho4 np
      refine ⟨_, rfl, _, rfl, D, _, _, _, rfl, rfl, sqL_of gD, ev, _, _, rfl, rfl, _, rfl, ite2 (fun hc => ?_) (fun hc => ?_)⟩
      · have hv : 0 < v := of_decide_eq_true hc
        have d0 := emod_bds v (n := 1000) (by decide)
        refine ⟨_, rfl, .inl ⟨rfl, _, sqL_of gp⟩, _, rfl, _, rfl, D, _, _, _, rfl, rfl, sqL_of gD, ev, _, _, rfl, rfl, p1000, p, _, _, rfl, rfl, gp, ?_, ?_⟩
        · rw [List.length_map]
          have := line_big
          omega
        · have gD2 : upd G p (.lst (ds.map V.int ++ [.int (v % 1000)])) D = some (.lst (rs.map V.int)) := by rw [upd_ne npD.symm]; exact gD
          refine ⟨_, rfl, _, rfl, D, _, _, _, rfl, rfl, sqL_of gD2, ev, _, _, rfl, rfl, ⟨by decide, by decide⟩, _, rfl, _, rfl, D, _, _, _, rfl, rfl, gD2, ix_in m0.1 (by rw [List.length_map, hrs]; exact m0.2), ?_⟩
          refine ⟨_, _, ds ++ [v % 1000], rs.set ((0 + (i : Int)) % own.length).toNat (v / 1000), rfl, (kG.over nHp).over nHD, ?_, ?_, by rw [List.length_set]; exact hrs, ?_, by rw [List.length_append, hds]; rfl, ?_⟩
          · rw [upd_ne (ne_of_none ho hD), upd_ne npo]
            exact go
          · rw [upd_same, List.map_set]
          · rw [upd_ne npD, upd_same, List.map_append]
            rfl
          · intro d hd
            rcases List.mem_append.mp hd with hd | hd
            · exact hdig d hd
            · rw [List.mem_singleton.mp hd]
              exact d0
      · refine ⟨_, rfl, .inl ⟨rfl, _, sqL_of gp⟩, _, rfl, _, rfl, o, _, _, _, rfl, rfl, sqL_of go, eu, _, rfl, _, _, rfl, rfl, _, _, rfl, by omega, by omega, fun rr hr0 => ?_⟩
        have d0 := emod_bds rr (n := 1000) (by decide)
        refine ⟨_, _, rfl, rfl, p1000, p, _, _, rfl, rfl, gp, ?_, ?_⟩
        · rw [List.length_map]
          have := line_big
          omega
        · refine ⟨_, _, ds ++ [rr % 1000], rs, rfl, kG.over nHp, ?_, ?_, hrs, ?_, by rw [List.length_append, hds]; rfl, ?_⟩
          · rw [upd_ne npo]
            exact go
          · rw [upd_ne npD.symm]
            exact gD
          · rw [upd_same, List.map_append]
            rfl
          · intro d hd
            rcases List.mem_append.mp hd with hd | hd
            · exact hdig d hd
            · rw [List.mem_singleton.mp hd]
              exact d0
    · obtain ⟨y6, y7, ds, rs, rfl, kG, go, gD, hrs, gp, hds, hdig⟩ := hG
      refine ⟨_, rfl, p, _, rfl, sqL_of gp, fun e ne => ?_⟩
      exact q e _ (kG.dom _ ne) (kG.trans (Ke.new ne)) ⟨ds.reverse, by rw [upd_same, List.map_reverse], fun d hd => hdig d (List.mem_reverse.mp hd)⟩
theorem ok__law_next {P : Program} {w : World} {K : PySem.W.Frag} {mg : Str → Option Value} {base : Heap} {tb : List Addr} {f : Addr} {fd : FuncData} (T : Blt mg) (D__law_next : DefAt K mg "_law_next" s_law_next ["_law_deck_here"] f fd) (XC : Xcs xfs K mg) :
    FnOk P w K mg base CX0 1 f fd ["_law_deck_here"] (sp__law_next K tb) := by
  refine D__law_next.ok sc__law_next (fun vs H Q E h => by
    obtain ⟨p, rfl, hd, q⟩ := h
    all_goals rfl) fun A outer s H vs Q E hr h => ?_
  obtain ⟨p, rfl, hd, q⟩ := h
  refine ⟨_, pss_cons (ps_if (pt_cmpR op_gt (pe_callB (lenK (K := K)) (by rfl) T.b_len PySem.boot_len (pa_cons (pv 0) pa_nil)) (pe_int) (nomark _))
     (pss_one (ps_ret (pe_bm0 PySem.F.plainAttrs_list PySem.F.slot_list_pop PySem.F.type_list_pop mt_pop (pv 0))))
     (pss_nil))
     (pss_one (ps_ret (pe_int))), ?_⟩
  obtain ⟨ds, hp, hg⟩ := id hd
  refine ⟨_, rfl, p, ds.map V.int, rfl, .inl (sqL_of hp), _, _, rfl, rfl, _, rfl, ite2 (fun e => ?_) (fun e => ?_)⟩
  · have hl : 0 < ds.length := by
      have h0 := of_decide_eq_true e
      rw [List.length_map] at h0
      omega
    have hlast : (ds.map V.int)[(ds.map V.int).length - 1]? = some (.int ds[ds.length - 1]) := by
      rw [List.length_map, List.getElem?_map, List.getElem?_eq_getElem (by omega)]
      rfl
    refine ⟨_, rfl, .inl ⟨rfl, _, sqL_of hp⟩, p, ds.map V.int, _, rfl, rfl, hp, hlast, ?_⟩
    have hm : ds[ds.length - 1] ∈ ds := List.getElem_mem _
    refine q _ _ (hg _ hm).1 (hg _ hm).2 ⟨Ke.put hp (fun _ z => nomatch z), ds.dropLast, ?_, fun d h => hg d (List.dropLast_subset _ h)⟩
    rw [upd_same, List.map_dropLast]
  · exact q 0 H (by decide) (by decide) (.refl hd)
theorem tie_ne {a r n : Int} (hn : 2 ≤ n) (a0 : 0 ≤ a) (a1 : a < n) (r0 : 0 ≤ r) (r1 : r < n - 1) : (a + 1 + r) % n ≠ a := by
  intro h
  by_cases c : a + 1 + r < n
  · rw [Int.emod_eq_of_lt (by omega) c] at h
    omega
  · have e : (a + 1 + r) % n = a + 1 + r - n := by
      rw [← Int.sub_emod_right, Int.emod_eq_of_lt (by omega) (by omega)]
    omega
theorem ok__law_tie {P : Program} {w : World} {K : PySem.W.Frag} {mg : Str → Option Value} {base : Heap} {tb : List Addr} {f : Addr} {fd : FuncData} {f__law_next : Addr} {fd__law_next : FuncData} (T : Blt mg) (D__law_tie : DefAt K mg "_law_tie" s_law_tie ["_law_deck_here", "_law_points"] f fd) (XC : Xcs xfs K mg) (D__law_next : DefAt K mg "_law_next" s_law_next ["_law_deck_here"] f__law_next fd__law_next) (G__law_next : FnOk P w K mg base CX0 1 f__law_next fd__law_next ["_law_deck_here"] (sp__law_next K tb)) :
    FnOk P w K mg base CX0 2 f fd ["_law_deck_here", "_law_points"] (sp__law_tie K tb) := by
  refine D__law_tie.ok sc__law_tie (fun vs H Q E h => by
    obtain ⟨p, n, rfl, hd, hn, q⟩ := h
    all_goals rfl) fun A outer s H vs Q E hr h => ?_
  obtain ⟨p, n, rfl, hd, hn, q⟩ := h
  refine ⟨_, pss_cons (ps_set (i := 2) sc__law_tie.nd rfl (.inl rfl) (pe_op op_mod (pe_call G__law_next (hr.mono (by decide)) (by rfl) D__law_next.g D__law_next.F.kp D__law_next.b .nil pass0 (pa_cons (pv 0) pa_nil)) (pv 1)))
     (pss_cons (ps_set (i := 3) sc__law_tie.nd rfl (.inl rfl) (pe_op op_mod (pe_op op_add (pe_op op_add (pv 2) (pe_int)) (pe_op op_mod (pe_call G__law_next (hr.mono (by decide)) (by rfl) D__law_next.g D__law_next.F.kp D__law_next.b .nil pass0 (pa_cons (pv 0) pa_nil)) (pe_op op_sub (pv 1) (pe_int)))) (pv 1)))
     (pss_one (ps_ret (pe_tup (pa_cons (pe_callB (call_min2 rfl) (by rfl) T.b_min (by decide +kernel) (pa_cons (pv 2) (pa_cons (pv 3) pa_nil))) (pa_cons (pe_callB (call_max2 rfl) (by rfl) T.b_max (by decide +kernel) (pa_cons (pv 2) (pa_cons (pv 3) pa_nil))) pa_nil)))))), ?_⟩
  refine ⟨_, rfl, p, rfl, hd, fun r1 H1 a0 a1 k1 => ?_⟩
  refine ⟨_, rfl, _, _, rfl, rfl, by omega, ?_⟩
  have b0 : 0 ≤ r1 % n := Int.emod_nonneg _ (by omega)
  have b1 : r1 % n < n := Int.emod_lt_of_pos _ (by omega)
  refine ⟨_, rfl, _, _, rfl, rfl, _, rfl, p, rfl, k1.d, fun r2 H2 c0 c1 k2 => ?_⟩
  refine ⟨_, rfl, _, _, rfl, rfl, _, _, rfl, rfl, by omega, _, _, rfl, rfl, _, rfl, _, _, rfl, rfl, by omega, ?_⟩
  have e0 : 0 ≤ r2 % (n - 1) := Int.emod_nonneg _ (by omega)
  have e1 : r2 % (n - 1) < n - 1 := Int.emod_lt_of_pos _ (by omega)
  have hne := tie_ne hn b0 b1 e0 e1
  have d0 : 0 ≤ (r1 % n + 1 + r2 % (n - 1)) % n := Int.emod_nonneg _ (by omega)
  have d1 : (r1 % n + 1 + r2 % (n - 1)) % n < n := Int.emod_lt_of_pos _ (by omega)
  refine ⟨_, rfl, _, rfl, _, _, rfl, _, rfl, _, rfl, _, _, rfl, by show 2 ≤ sizeLine; decide, fun t ht => ?_⟩
  exact q _ _ t H2 (by split <;> omega) (by split <;> split <;> omega) (by split <;> omega) (k1.trans k2) ht
theorem ok__law_any_web {P : Program} {w : World} {K : PySem.W.Frag} {mg : Str → Option Value} {base : Heap} {tb : List Addr} {f : Addr} {fd : FuncData} {f__law_next : Addr} {fd__law_next : FuncData} {f__law_tie : Addr} {fd__law_tie : FuncData} (T : Blt mg) (D__law_any_web : DefAt K mg "_law_any_web" s_law_any_web ["_law_deck_here", "_law_points", "_law_most"] f fd) (XC : Xcs xfs K mg) (D__law_next : DefAt K mg "_law_next" s_law_next ["_law_deck_here"] f__law_next fd__law_next) (G__law_next : FnOk P w K mg base CX0 1 f__law_next fd__law_next ["_law_deck_here"] (sp__law_next K tb)) (D__law_tie : DefAt K mg "_law_tie" s_law_tie ["_law_deck_here", "_law_points"] f__law_tie fd__law_tie) (G__law_tie : FnOk P w K mg base CX0 2 f__law_tie fd__law_tie ["_law_deck_here", "_law_points"] (sp__law_tie K tb)) :
    FnOk P w K mg base CX0 3 f fd ["_law_deck_here", "_law_points", "_law_most"] (sp__law_any_web K tb) := by
  refine D__law_any_web.ok sc__law_any_web (fun vs H Q E h => by
    obtain ⟨p, n, m, rfl, hd, hn0, hn1, hm0, hm1, q⟩ := h
    all_goals rfl) fun A outer s H vs Q E hr h => ?_
  obtain ⟨p, n, m, rfl, hd, hn0, hn1, hm0, hm1, q⟩ := h
  refine ⟨_, pss_cons (ps_set (i := 3) sc__law_any_web.nd rfl (.inl rfl) (pe_lst pa_nil))
     (C8.pss_cut (ps_if (pt_cmpR op_gt (pv 1) (pe_int) (nomark _))
     (pss_one (ps_setLc (i := 3) (own := [("_law_k", 4)]) rfl sc__law_any_web.nd rfl rfl (sw_true rfl rfl rfl (by decide +kernel)) (pi_range1 (by rfl) T.b_range (pa_cons (pe_op op_mod (pe_call G__law_next (hr.mono (by decide)) (by rfl) D__law_next.g D__law_next.F.kp D__law_next.b .nil pass0 (pa_cons (pv 0) pa_nil)) (pe_op op_add (pv 2) (pe_int))) pa_nil)) (blkOk_by (own := [("_law_k", 4)]) (N := nm__law_any_web) (sc := defScope s_law_any_web) (by decide +kernel)) (fun _ _ _ _ _ => pg_name (i := 4) sc__law_any_web.nd rfl (.inl rfl)) (fun _ _ _ _ _ => pts_nil) (fun _ _ _ _ _ => pe_call G__law_tie (hr.mono (by decide)) (by rfl) D__law_tie.g D__law_tie.F.kp D__law_tie.b .nil pass0 (pa_cons (pv 0) (pa_cons (pv 1) pa_nil)))))
     (pss_nil))
     (pss_one (ps_ret (pe_tup (pa_cons (pv 1) (pa_cons (pe_callTy (tupleK (K := K)) (by rfl) T.b_tuple (by decide +kernel) (pa_cons (pv 3) pa_nil)) pa_nil)))))), ?_⟩
  refine ⟨Nat.zero_le _, fun l nl => ?_⟩
  have k0 : Dk p H (upd H l (.lst [])) := (Dk.refl hd).new nl
  refine ⟨fun σ G => ∃ (y : Option V) (l' : Addr) (ts : List (Int × Int)), σ = [some (.ref p), some (.int n), some (.int m), some (.ref l'), y] ∧ Dk p H G ∧ TL G l' ts ∧ (ts.length : Int) ≤ m ∧ TOk n ts ∧ (n = 1 → ts = []), ?_, fun σ G hG => ?_⟩
  · refine ⟨_, rfl, _, _, rfl, rfl, _, rfl, ite2 (fun e => ?_) (fun e => ?_)⟩
    · have hn : 2 ≤ n := by
        have := of_decide_eq_true e
        omega
      refine ⟨_, rfl, p, rfl, k0.d, fun r H1 r0 r1 k1 => ?_⟩
      have e1 := emod_bds r (n := m + 1) (by omega)
      refine ⟨_, rfl, _, _, rfl, rfl, _, _, rfl, rfl, by omega, _, rfl, by omega, by omega, fun D hD => ?_⟩
      have k01 := k0.trans k1
      have nD := k01.k.dom _ hD
      refine lc_range (lo := 0) (n := (r % (m + 1)).toNat) (fun i G => ∃ (rs : List V) (ts : List (Int × Int)), G D = some (.lst rs) ∧ Ties G rs ts ∧ ts.length = i ∧ TOk n ts ∧ Dk p H G) ⟨[], [], upd_same, .nil, rfl, TOk.nil, k01.over hd nD⟩ (fun i G hi hG => ?_) (fun G hG => ?_)
      · obtain ⟨rs, ts, gD, gT, hl, hok, kG⟩ := hG
        refine ⟨rfl, yes_ite ?_⟩
        refine ⟨_, rfl, _, rfl, p, n, rfl, kG.d, hn, fun a b t G1 a0 ab b1 kG1 nt => ?_⟩
        have nDp : D ≠ p := (hd.ne nD).symm
        have gD1 : G1 D = some (.lst rs) := kG1.lst gD nDp
        have gD2 : upd G1 t (.tup [.int a, .int b]) D = some (.lst rs) := by rw [upd_ne (ne_of_none gD1 nt)]; exact gD1
        refine ⟨rs, gD2, ?_, rs ++ [.ref t], ts ++ [(a, b)], upd_same, ((((gT.dk kG1 kG.d).new nt).append (Ties.one upd_same)).put gD2), by rw [List.length_append, hl]; rfl, hok.append (TOk.one a0 ab b1), ((kG.trans kG1).new nt).over hd nD⟩
        rw [gT.length, hl]
        have := line_big
        omega
      · obtain ⟨rs, ts, gD, gT, hl, hok, kG⟩ := hG
        exact ⟨_, D, ts, rfl, kG, ⟨rs, gD, gT⟩, by omega, hok, fun z => absurd z (by omega)⟩
    · exact ⟨_, l, [], rfl, k0, ⟨[], upd_same, .nil⟩, by simpa using hm0, TOk.nil, fun _ => rfl⟩
  · obtain ⟨y, l', ts, rfl, kG, ⟨rs, gl, gT⟩, hlen, hok, h1⟩ := hG
    refine ⟨_, rfl, _, rfl, l', _, rfl, .inl ⟨sqL_of gl, fun u nu => ?_⟩⟩
    refine ⟨by show 2 ≤ sizeLine; decide, fun t nt => ?_⟩
    refine q _ _ ts ((kG.new nu).new nt) ⟨t, u, rs, rfl, upd_same, ?_, (gT.new nu).new nt⟩ hlen hok h1
    rw [upd_ne (upd_none nt).1.symm, upd_same]
theorem ok__law_round {P : Program} {w : World} {K : PySem.W.Frag} {mg : Str → Option Value} {base : Heap} {tb : List Addr} {f : Addr} {fd : FuncData} (T : Blt mg) (D__law_round : DefAt K mg "_law_round" s_law_round ["_law_points"] f fd) (XC : Xcs xfs K mg) :
    FnOk P w K mg base CX0 1 f fd ["_law_points"] (sp__law_round K tb) := by
  refine D__law_round.ok sc__law_round (fun vs H Q E h => by
    obtain ⟨n, rfl, hn0, hn1, q⟩ := h
    all_goals rfl) fun A outer s H vs Q E hr h => ?_
  obtain ⟨n, rfl, hn0, hn1, q⟩ := h
  refine ⟨_, pss_one (ps_ret (pe_op op_cat (pe_lc (own := [("_law_k", 1)]) rfl sc__law_round.nd (pi_range1 (by rfl) T.b_range (pa_cons (pe_op op_sub (pv 0) (pe_int)) pa_nil)) (blkOk_by (own := [("_law_k", 1)]) (N := nm__law_round) (sc := defScope s_law_round) (by decide +kernel)) (fun _ _ _ _ _ => pg_name (i := 1) sc__law_round.nd rfl (.inl rfl)) (fun _ _ _ _ _ => pts_nil) (fun _ _ _ _ _ => pe_tup (pa_cons (pv 1) (pa_cons (pe_op op_add (pv 1) (pe_int)) pa_nil)))) (pe_op op_rep (pe_lst (pa_cons (pe_tup (pa_cons (pe_int) (pa_cons (pe_op op_sub (pv 0) (pe_int)) pa_nil))) pa_nil)) (pe_callTy call_int1 (by rfl) T.b_int (by decide +kernel) (pa_cons (pe_cmpR op_gt (pv 0) (pe_int) (nomark _)) pa_nil))))), ?_⟩
  refine ⟨_, rfl, _, _, rfl, rfl, _, rfl, by omega, by omega, fun D hD => ?_⟩
  refine lc_range (lo := 0) (n := (n - 1).toNat) (fun i G => ∃ (rs : List V) (ts : List (Int × Int)), G D = some (.lst rs) ∧ Ties G rs ts ∧ ts.length = i ∧ TOk n ts ∧ Ke H G) ⟨[], [], upd_same, .nil, rfl, TOk.nil, Ke.new hD⟩ (fun i G hi hG => ?_) (fun G hG => ?_)
  · obtain ⟨rs, ts, gD, gT, hl, hok, kG⟩ := hG
    refine ⟨rfl, yes_ite ?_⟩
    refine ⟨_, rfl, _, rfl, _, _, rfl, rfl, by show 2 ≤ sizeLine; decide, fun t nt => ?_⟩
    have gD2 : upd G t (.tup [.int (0 + (i : Int)), .int (0 + (i : Int) + 1)]) D = some (.lst rs) := by rw [upd_ne (ne_of_none gD nt)]; exact gD
    refine ⟨rs, gD2, ?_, rs ++ [.ref t], ts ++ [(0 + (i : Int), 0 + (i : Int) + 1)], upd_same, (((gT.new nt).append (Ties.one upd_same)).put gD2), by rw [List.length_append, hl]; rfl, hok.append (TOk.one (by omega) (by omega) (by omega)), (kG.trans (Ke.new nt)).over hD⟩
    rw [gT.length, hl]
    have := line_big
    omega
  · obtain ⟨rs, ts, gD, gT, hl, hok, kG⟩ := hG
    refine ⟨_, rfl, _, _, rfl, rfl, by show 2 ≤ sizeLine; decide, fun t nt => ⟨by show 1 ≤ sizeLine; decide, fun z nz => ?_⟩⟩
    refine ⟨_, rfl, _, _, rfl, rfl, .inr ⟨_, rfl, ?_⟩⟩
    refine ⟨z, _, _, rfl, rfl, upd_same, by split <;> decide, by split <;> decide, by split <;> (show 1 * _ ≤ sizeLine; decide), fun r nr => ?_⟩
    have k1 : Ke G _ := ((Ke.new (S := fun _ => False) (o := .tup [.int 0, .int (n - 1)]) nt).trans (Ke.new (o := .lst [.ref t]) nz)).trans (Ke.new (o := .lst (List.replicate (Int.toNat (if decide (n > 2) = true then 1 else 0)) [V.ref t]).flatten) nr)
    have ht : upd (upd (upd G t (.tup [.int 0, .int (n - 1)])) z (.lst [.ref t])) r (.lst (List.replicate (Int.toNat (if decide (n > 2) = true then 1 else 0)) [V.ref t]).flatten) t = some (.tup [.int 0, .int (n - 1)]) := by
      rw [upd_ne, upd_ne (upd_none nz).1.symm, upd_same]
      exact fun e => by
        rw [← e, upd_ne (upd_none nz).1.symm, upd_same] at nr
        cases nr
    obtain ⟨us, hus, hul, huo⟩ : ∃ us : List (Int × Int), Ties (upd (upd (upd G t (.tup [.int 0, .int (n - 1)])) z (.lst [.ref t])) r (.lst (List.replicate (Int.toNat (if decide (n > 2) = true then 1 else 0)) [V.ref t]).flatten)) (List.replicate (Int.toNat (if decide (n > 2) = true then 1 else 0)) [V.ref t]).flatten us ∧ us.length ≤ 1 ∧ TOk n us := by
      by_cases h2 : n > 2
      · refine ⟨[(0, n - 1)], ?_, Nat.le_refl _, TOk.one (by decide) (by omega) (by omega)⟩
        have e : (List.replicate (Int.toNat (if decide (n > 2) = true then 1 else 0)) [V.ref t]).flatten = [V.ref t] := by rw [decide_eq_true h2]; rfl
        rw [e] at ht ⊢
        exact Ties.one ht
      · refine ⟨[], ?_, by decide, TOk.nil⟩
        have e : (List.replicate (Int.toNat (if decide (n > 2) = true then 1 else 0)) [V.ref t]).flatten = [] := by rw [decide_eq_false h2]; rfl
        rw [e]
        exact .nil
    have gT1 := gT.ke k1
    have gD1 := k1.lst gD
    have hr : upd (upd (upd G t (.tup [.int 0, .int (n - 1)])) z (.lst [.ref t])) r (.lst (List.replicate (Int.toNat (if decide (n > 2) = true then 1 else 0)) [V.ref t]).flatten) r = some (.lst (List.replicate (Int.toNat (if decide (n > 2) = true then 1 else 0)) [V.ref t]).flatten) := upd_same
    have kH := kG.trans k1
    generalize upd (upd (upd G t (.tup [.int 0, .int (n - 1)])) z (.lst [.ref t])) r (.lst (List.replicate (Int.toNat (if decide (n > 2) = true then 1 else 0)) [V.ref t]).flatten) = Hz at *
    refine ⟨D, r, _, _, rfl, rfl, gD1, hr, ?_, fun l nl => ?_⟩
    · rw [gT1.length, hus.length, hl]
      have := line_big
      omega
    · refine q _ l (ts ++ us) (kH.trans (Ke.new nl)) (kH.dom _ nl) ⟨_, upd_same, (gT1.append hus).new nl⟩ ?_ (hok.append huo)
      rw [List.length_append]
      omega
theorem ok__law_full {P : Program} {w : World} {K : PySem.W.Frag} {mg : Str → Option Value} {base : Heap} {tb : List Addr} {f : Addr} {fd : FuncData} (T : Blt mg) (D__law_full : DefAt K mg "_law_full" s_law_full ["_law_points"] f fd) (XC : Xcs xfs K mg) :
    FnOk P w K mg base CX0 1 f fd ["_law_points"] (sp__law_full K tb) := by
  refine D__law_full.ok sc__law_full (fun vs H Q E h => by
    obtain ⟨n, rfl, hn0, hn1, q⟩ := h
    all_goals rfl) fun A outer s H vs Q E hr h => ?_
  obtain ⟨n, rfl, hn0, hn1, q⟩ := h
  refine ⟨_, pss_cons (ps_set (i := 1) sc__law_full.nd rfl (.inl rfl) (pe_lst pa_nil))
     (pss_cons (ps_for PassesOwn.never rfl (pi_range1 (by rfl) T.b_range (pa_cons (pv 0) pa_nil)) (pg_name (i := 2) sc__law_full.nd rfl (.inr rfl))
     (pss_one (ps_set (i := 1) sc__law_full.nd rfl (.inl rfl) (pe_op op_cat (pv 1) (pe_lc (own := [("_law_a", 3)]) rfl sc__law_full.nd (pi_range1 (by rfl) T.b_range (pa_cons (pv 2) pa_nil)) (blkOk_by (own := [("_law_a", 3)]) (N := nm__law_full) (sc := defScope s_law_full) (by decide +kernel)) (fun _ _ _ _ _ => pg_name (i := 3) sc__law_full.nd rfl (.inl rfl)) (fun _ _ _ _ _ => pts_nil) (fun _ _ _ _ _ => pe_tup (pa_cons (pv 3) (pa_cons (pv 2) pa_nil))))))))
     (pss_one (ps_ret (pv 1)))), ?_⟩
  refine ⟨Nat.zero_le _, fun l0 nl0 => ?_⟩
  refine ⟨_, rfl, n, rfl, by omega, by omega, ?_⟩
  refine for_range (n := n.toNat) (fun i σ G => ∃ (y2 y3 : Option V) (l : Addr) (ts : List (Int × Int)), σ = [some (.int n), some (.ref l), y2, y3] ∧ Ke H G ∧ H l = none ∧ TL G l ts ∧ ts.length ≤ 100 * i ∧ TOk n ts)
    ⟨none, none, l0, [], rfl, Ke.new nl0, nl0, ⟨[], upd_same, .nil⟩, Nat.zero_le _, TOk.nil⟩ (fun i σ G hi hG => ?_) (fun σ G hG => ?_)
  · obtain ⟨y2, y3, l, ts, rfl, kG, nl, ⟨rs, gl, gT⟩, hlen, hok⟩ := hG
    refine ⟨_, rfl, _, rfl, _, rfl, by omega, by omega, fun D hD => ?_⟩
    have nHD := kG.dom _ hD
    refine lc_range (lo := 0) (n := (0 + (i : Int)).toNat) (fun j G' => ∃ (qs : List V) (us : List (Int × Int)), G' D = some (.lst qs) ∧ Ties G' qs us ∧ us.length = j ∧ TOk n us ∧ Ke G G') ⟨[], [], upd_same, .nil, rfl, TOk.nil, Ke.new hD⟩ (fun j G' hj hG' => ?_) (fun G' hG' => ?_)
    · obtain ⟨qs, us, gD, gU, hul, huo, kU⟩ := hG'
      refine ⟨rfl, yes_ite ?_⟩
      refine ⟨_, rfl, _, rfl, by show 2 ≤ sizeLine; decide, fun t nt => ?_⟩
      have gD2 : upd G' t (.tup [.int (0 + (j : Int)), .int (0 + (i : Int))]) D = some (.lst qs) := by rw [upd_ne (ne_of_none gD nt)]; exact gD
      refine ⟨qs, gD2, ?_, qs ++ [.ref t], us ++ [(0 + (j : Int), 0 + (i : Int))], upd_same, (((gU.new nt).append (Ties.one upd_same)).put gD2), by rw [List.length_append, hul]; rfl, huo.append (TOk.one (by omega) (by omega) (by omega)), (kU.trans (Ke.new nt)).over hD⟩
      rw [gU.length, hul]
      have := line_big
      omega
    · obtain ⟨qs, us, gD, gU, hul, huo, kU⟩ := hG'
      refine ⟨l, D, _, _, rfl, rfl, kU.lst gl, gD, ?_, fun l2 nl2 => ?_⟩
      · rw [gT.length, gU.length, hul]
        have := line_big
        omega
      · refine ⟨_, _, l2, ts ++ us, rfl, (kG.trans kU).trans (Ke.new nl2), (kG.trans kU).dom _ nl2, ⟨_, upd_same, ((gT.ke kU).append gU).new nl2⟩, ?_, hok.append huo⟩
        rw [List.length_append]
        omega
  · obtain ⟨y2, y3, l, ts, rfl, kG, nl, ht, hlen, hok⟩ := hG
    exact ⟨_, rfl, q _ l ts kG nl ht (by omega) hok⟩
theorem ok__law_tree {P : Program} {w : World} {K : PySem.W.Frag} {mg : Str → Option Value} {base : Heap} {tb : List Addr} {f : Addr} {fd : FuncData} {f__law_next : Addr} {fd__law_next : FuncData} (T : Blt mg) (D__law_tree : DefAt K mg "_law_tree" s_law_tree ["_law_deck_here", "_law_points"] f fd) (XC : Xcs xfs K mg) (D__law_next : DefAt K mg "_law_next" s_law_next ["_law_deck_here"] f__law_next fd__law_next) (G__law_next : FnOk P w K mg base CX0 1 f__law_next fd__law_next ["_law_deck_here"] (sp__law_next K tb)) :
    FnOk P w K mg base CX0 2 f fd ["_law_deck_here", "_law_points"] (sp__law_tree K tb) := by
  refine D__law_tree.ok sc__law_tree (fun vs H Q E h => by
    obtain ⟨p, n, rfl, hd, hn0, hn1, q⟩ := h
    all_goals rfl) fun A outer s H vs Q E hr h => ?_
  obtain ⟨p, n, rfl, hd, hn0, hn1, q⟩ := h
  refine ⟨_, pss_one (ps_ret (pe_lc (own := [("_law_k", 2)]) rfl sc__law_tree.nd (pi_range2 (by rfl) T.b_range (pa_cons (pe_int) (pa_cons (pv 1) pa_nil))) (blkOk_by (own := [("_law_k", 2)]) (N := nm__law_tree) (sc := defScope s_law_tree) (by decide +kernel)) (fun _ _ _ _ _ => pg_name (i := 2) sc__law_tree.nd rfl (.inl rfl)) (fun _ _ _ _ _ => pts_nil) (fun _ _ _ _ _ => pe_tup (pa_cons (pe_op op_mod (pe_call G__law_next (hr.mono (by decide)) (by rfl) D__law_next.g D__law_next.F.kp D__law_next.b .nil pass0 (pa_cons (pv 0) pa_nil)) (pv 2)) (pa_cons (pv 2) pa_nil))))), ?_⟩
  refine ⟨_, rfl, 1, n, rfl, ⟨by omega, by omega, by omega, by omega⟩, fun D hD => ?_⟩
  refine lc_range (lo := 1) (n := (n - 1).toNat) (fun i G => ∃ (rs : List V) (ts : List (Int × Int)), G D = some (.lst rs) ∧ Ties G rs ts ∧ ts.length = i ∧ TOk n ts ∧ Dk p H G) ⟨[], [], upd_same, .nil, rfl, TOk.nil, (Dk.refl hd).new hD⟩ (fun i G hi hG => ?_) (fun G hG => ?_)
  · obtain ⟨rs, ts, gD, gT, hl, hok, kG⟩ := hG
    refine ⟨rfl, yes_ite ?_⟩
    refine ⟨_, rfl, p, rfl, kG.d, fun r G1 r0 r1 kG1 => ?_⟩
    have e1 := emod_bds r (n := 1 + (i : Int)) (by omega)
    refine ⟨_, rfl, _, _, rfl, rfl, by omega, _, rfl, by show 2 ≤ sizeLine; decide, fun t nt => ?_⟩
    have nDp : D ≠ p := (hd.ne hD).symm
    have gD1 : G1 D = some (.lst rs) := kG1.lst gD nDp
    have gD2 : upd G1 t (.tup [.int (r % (1 + (i : Int))), .int (1 + (i : Int))]) D = some (.lst rs) := by rw [upd_ne (ne_of_none gD1 nt)]; exact gD1
    refine ⟨rs, gD2, ?_, rs ++ [.ref t], ts ++ [(r % (1 + (i : Int)), 1 + (i : Int))], upd_same, ((((gT.dk kG1 kG.d).new nt).append (Ties.one upd_same)).put gD2), by rw [List.length_append, hl]; rfl, hok.append (TOk.one e1.1 e1.2 (by omega)), ((kG.trans kG1).new nt).over hd hD⟩
    rw [gT.length, hl]
    have := line_big
    omega
  · obtain ⟨rs, ts, gD, gT, hl, hok, kG⟩ := hG
    exact q _ D ts kG hD ⟨rs, gD, gT⟩ (by omega) hok
theorem ok__law_web {P : Program} {w : World} {K : PySem.W.Frag} {mg : Str → Option Value} {base : Heap} {tb : List Addr} {f : Addr} {fd : FuncData} {f__law_next : Addr} {fd__law_next : FuncData} {f__law_any_web : Addr} {fd__law_any_web : FuncData} {f__law_round : Addr} {fd__law_round : FuncData} {f__law_full : Addr} {fd__law_full : FuncData} {f__law_tree : Addr} {fd__law_tree : FuncData} (T : Blt mg) (D__law_web : DefAt K mg "_law_web" s_law_web ["_law_deck_here", "_law_points", "_law_most"] f fd) (XC : Xcs xfs K mg) (D__law_next : DefAt K mg "_law_next" s_law_next ["_law_deck_here"] f__law_next fd__law_next) (G__law_next : FnOk P w K mg base CX0 1 f__law_next fd__law_next ["_law_deck_here"] (sp__law_next K tb)) (D__law_any_web : DefAt K mg "_law_any_web" s_law_any_web ["_law_deck_here", "_law_points", "_law_most"] f__law_any_web fd__law_any_web) (G__law_any_web : FnOk P w K mg base CX0 3 f__law_any_web fd__law_any_web ["_law_deck_here", "_law_points", "_law_most"] (sp__law_any_web K tb)) (D__law_round : DefAt K mg "_law_round" s_law_round ["_law_points"] f__law_round fd__law_round) (G__law_round : FnOk P w K mg base CX0 1 f__law_round fd__law_round ["_law_points"] (sp__law_round K tb)) (D__law_full : DefAt K mg "_law_full" s_law_full ["_law_points"] f__law_full fd__law_full) (G__law_full : FnOk P w K mg base CX0 1 f__law_full fd__law_full ["_law_points"] (sp__law_full K tb)) (D__law_tree : DefAt K mg "_law_tree" s_law_tree ["_law_deck_here", "_law_points"] f__law_tree fd__law_tree) (G__law_tree : FnOk P w K mg base CX0 2 f__law_tree fd__law_tree ["_law_deck_here", "_law_points"] (sp__law_tree K tb)) :
    FnOk P w K mg base CX0 4 f fd ["_law_deck_here", "_law_points", "_law_most"] (sp__law_web K tb) := by
  refine D__law_web.ok sc__law_web (fun vs H Q E h => by
    obtain ⟨p, M, m, rfl, hd, hM0, hM1, hm0, hm1, q⟩ := h
    all_goals rfl) fun A outer s H vs Q E hr h => ?_
  obtain ⟨p, M, m, rfl, hd, hM0, hM1, hm0, hm1, q⟩ := h
  refine ⟨_, pss_cons (ps_set (i := 3) sc__law_web.nd rfl (.inl rfl) (pe_op op_mod (pe_call G__law_next (hr.mono (by decide)) (by rfl) D__law_next.g D__law_next.F.kp D__law_next.b .nil pass0 (pa_cons (pv 0) pa_nil)) (pe_int)))
     (pss_cons (ps_set (i := 4) sc__law_web.nd rfl (.inl rfl) (pe_op op_add (pe_int) (pe_op op_mod (pe_call G__law_next (hr.mono (by decide)) (by rfl) D__law_next.g D__law_next.F.kp D__law_next.b .nil pass0 (pa_cons (pv 0) pa_nil)) (pv 1))))
     (pss_cons (ps_if (PW.pt (pw_or (pt_cmpR op_lt (pv 3) (pe_int) (nomark _)) (pw_or1 (pt_cmpR op_eq (pv 4) (pe_int) (nomark _)))))
     (pss_one (ps_ret (pe_call G__law_any_web (hr.mono (by decide)) (by rfl) D__law_any_web.g D__law_any_web.F.kp D__law_any_web.b .nil pass0 (pa_cons (pv 0) (pa_cons (pv 4) (pa_cons (pv 2) pa_nil))))))
     (pss_nil))
     (pss_cons (ps_set (i := 5) sc__law_web.nd rfl (.inl rfl) (pe_callTy (listK (K := K)) (by rfl) T.b_list (by decide +kernel) (pa_cons (pe_ix (ix_tupK (K := K)) (pe_call G__law_any_web (hr.mono (by decide)) (by rfl) D__law_any_web.g D__law_any_web.F.kp D__law_any_web.b .nil pass0 (pa_cons (pv 0) (pa_cons (pv 4) (pa_cons (pe_int) pa_nil)))) (pe_int) (fun _ _ => rfl)) pa_nil)))
     (C8.pss_cut (ps_if (pt_cmpR op_eq (pv 3) (pe_int) (nomark _))
     (pss_one (ps_set (i := 6) sc__law_web.nd rfl (.inl rfl) (pe_op op_cat (pe_call G__law_round (hr.mono (by decide)) (by rfl) D__law_round.g D__law_round.F.kp D__law_round.b .nil pass0 (pa_cons (pv 4) pa_nil)) (pv 5))))
     (pss_one (ps_if (pt_cmpR op_eq (pv 3) (pe_int) (nomark _))
     (pss_one (ps_set (i := 6) sc__law_web.nd rfl (.inl rfl) (pe_op op_cat (pe_call G__law_full (hr.mono (by decide)) (by rfl) D__law_full.g D__law_full.F.kp D__law_full.b .nil pass0 (pa_cons (pe_callB (call_min2 rfl) (by rfl) T.b_min (by decide +kernel) (pa_cons (pv 4) (pa_cons (pe_int) pa_nil))) pa_nil)) (pv 5))))
     (pss_one (ps_if (pt_cmpR op_eq (pv 3) (pe_int) (nomark _))
     (pss_one (ps_set (i := 6) sc__law_web.nd rfl (.inl rfl) (pe_op op_cat (pe_call G__law_tree (hr.mono (by decide)) (by rfl) D__law_tree.g D__law_tree.F.kp D__law_tree.b .nil pass0 (pa_cons (pv 0) (pa_cons (pv 4) pa_nil))) (pv 5))))
     (pss_one (ps_if (pt_cmpR op_eq (pv 3) (pe_int) (nomark _))
     (pss_one (ps_set (i := 6) sc__law_web.nd rfl (.inl rfl) (pe_op op_cat (pe_op op_rep (pe_lst (pa_cons (pe_tup (pa_cons (pe_int) (pa_cons (pe_int) pa_nil))) pa_nil)) (pe_op op_mod (pe_call G__law_next (hr.mono (by decide)) (by rfl) D__law_next.g D__law_next.F.kp D__law_next.b .nil pass0 (pa_cons (pv 0) pa_nil)) (pe_op op_add (pv 2) (pe_int)))) (pv 5))))
     (pss_one (ps_set (i := 6) sc__law_web.nd rfl (.inl rfl) (pe_op op_cat (pe_op op_cat (pe_call G__law_tree (hr.mono (by decide)) (by rfl) D__law_tree.g D__law_tree.F.kp D__law_tree.b .nil pass0 (pa_cons (pv 0) (pa_cons (pv 4) pa_nil))) (pe_call G__law_tree (hr.mono (by decide)) (by rfl) D__law_tree.g D__law_tree.F.kp D__law_tree.b .nil pass0 (pa_cons (pv 0) (pa_cons (pv 4) pa_nil)))) (pe_slice (sl_listK (K := K)) (pv 5) po_none (po_some (pe_op op_mod (pe_call G__law_next (hr.mono (by decide)) (by rfl) D__law_next.g D__law_next.F.kp D__law_next.b .nil pass0 (pa_cons (pv 0) pa_nil)) (pe_int))))))))))))))
     (pss_cons (ps_set (i := 7) sc__law_web.nd rfl (.inl rfl) (pe_op op_mod (pe_call G__law_next (hr.mono (by decide)) (by rfl) D__law_next.g D__law_next.F.kp D__law_next.b .nil pass0 (pa_cons (pv 0) pa_nil)) (pe_callB (call_max2 rfl) (by rfl) T.b_max (by decide +kernel) (pa_cons (pe_int) (pa_cons (pe_callB (lenK (K := K)) (by rfl) T.b_len PySem.boot_len (pa_cons (pv 6) pa_nil)) pa_nil)))))
     (pss_one (ps_ret (pe_tup (pa_cons (pv 4) (pa_cons (pe_callTy (tupleK (K := K)) (by rfl) T.b_tuple (by decide +kernel) (pa_cons (pe_slice (sl_listK (K := K)) (pe_op op_cat (pe_slice (sl_listK (K := K)) (pv 6) (po_some (pv 7)) po_none) (pe_slice (sl_listK (K := K)) (pv 6) po_none (po_some (pv 7)))) po_none (po_some (pv 2))) pa_nil)) pa_nil)))))))))), ?_⟩
  refine ⟨_, rfl, p, rfl, hd, fun r1 H1 a0 a1 k1 => ⟨_, _, rfl, rfl, (by show (0 : Int) < 8; decide), ?_⟩⟩
  refine ⟨_, rfl, p, rfl, k1.d, fun r2 H2 b0 b1 k2 => ⟨_, rfl, _, _, rfl, rfl, by omega, _, _, rfl, rfl, ?_⟩⟩
  have e1 := emod_bds r1 (n := 8) (by decide)
  have e2 := emod_bds r2 (n := M) (by omega)
  have k12 := k1.trans k2
  have hs0 : 1 ≤ 1 + r2 % M := by omega
  have hs1 : 1 + r2 % M ≤ M := by omega
  -- the first way out
  have way1 : ∀ Q' : V → Hp → Prop, (∀ (H' : Hp) (v : V) (ts : List (Int × Int)), Dk p H2 H' → Web H' v (1 + r2 % M) ts → (ts.length : Int) ≤ m → TOk (1 + r2 % M) ts → Q' v H') → sp__law_any_web K tb [.ref p, .int (1 + r2 % M), .int m] H2 Q' E0 := fun Q' h' =>
    ⟨p, _, m, rfl, k12.d, hs0, by omega, hm0, hm1, fun H' v ts kk W l o _ => h' H' v ts kk W l o⟩
  have out1 : sp__law_any_web K tb [.ref p, .int (1 + r2 % M), .int m] H2 Q E0 := way1 Q fun H' v ts kk W l o => q H' v _ ts (k12.trans kk) W hs0 hs1 l o
  refine ⟨_, rfl, _, _, rfl, rfl, _, rfl, ite2 (fun c1 => ?_) (fun c1 => ?_)⟩
  · exact iteT ⟨_, rfl, _, rfl, _, rfl, out1⟩
  refine ⟨_, rfl, rfl, _, rfl, ite2 (fun c2 => ?_) (fun c2 => ?_)⟩
  · exact ⟨_, rfl, _, rfl, _, rfl, out1⟩
  have hs2 : 2 ≤ 1 + r2 % M := by
    have := ne_one c2
    omega
  clear way1 out1 c1 c2
  -- some ties more
  refine ⟨_, rfl, _, rfl, p, _, 4, rfl, k12.d, hs0, by omega, by decide, by decide, fun H3 v ms k3 W3 hml hmo _ => ?_⟩
  obtain ⟨t3, u3, rs3, rfl, ht3, hu3, hT3⟩ := W3
  refine ⟨t3, _, 1, _, rfl, rfl, sqT_of ht3, atI_nat (j := 1) rfl, u3, _, rfl, .inr (sqT_of hu3), fun lm nlm => ?_⟩
  have k4 : Dk p H (upd H3 lm (.lst rs3)) := (k12.trans k3).new nlm
  have hlm : (upd H3 lm (.lst rs3)) lm = some (.lst rs3) := upd_same
  have hTm : Ties (upd H3 lm (.lst rs3)) rs3 ms := hT3.new nlm
  have nHlm : H lm = none := (k12.trans k3).k.dom _ nlm
  have nlmp : lm ≠ p := (hd.ne nHlm).symm
  generalize upd H3 lm (.lst rs3) = H4 at *
  clear nlm hu3 ht3 hT3
  have LB := line_big
  have hrs3 : rs3.length = ms.length := hTm.length
  refine ⟨fun σ G => ∃ (l : Addr) (ts : List (Int × Int)), σ = [some (.ref p), some (.int M), some (.int m), some (.int (r1 % 8)), some (.int (1 + r2 % M)), some (.ref lm), some (.ref l), none] ∧ Dk p H G ∧ H l = none ∧ TL G l ts ∧ TOk (1 + r2 % M) ts ∧ ts.length ≤ 20000, ?_, fun σ G hG => ?_⟩
  · -- the ways
    refine ⟨_, rfl, rfl, _, rfl, ite2 (fun _ => ?_) (fun _ => ?_)⟩
    · refine ⟨_, rfl, _, rfl, hs2, by omega, fun H5 l1 us k5 nl1 hTL hul huo => ?_⟩
      obtain ⟨qs, hl1, hU⟩ := hTL
      have nHl1 := k4.k.dom _ nl1
      refine ⟨_, rfl, l1, lm, _, _, rfl, rfl, hl1, k5.lst hlm, by rw [hU.length, hrs3]; omega, fun o no => ?_⟩
      exact ⟨o, us ++ ms, rfl, (k4.ke k5).new no, (k4.ke k5).k.dom _ no, ⟨_, upd_same, (hU.append (hTm.ke k5)).new no⟩, huo.append hmo, by rw [List.length_append]; omega⟩
    refine ⟨_, rfl, rfl, _, rfl, ite2 (fun _ => ?_) (fun _ => ?_)⟩
    · refine ⟨_, rfl, _, _, rfl, _, rfl, by split <;> omega, by split <;> omega, fun H5 l1 us k5 nl1 hTL hul huo => ?_⟩
      obtain ⟨qs, hl1, hU⟩ := hTL
      refine ⟨_, rfl, l1, lm, _, _, rfl, rfl, hl1, k5.lst hlm, by rw [hU.length, hrs3]; omega, fun o no => ?_⟩
      exact ⟨o, us ++ ms, rfl, (k4.ke k5).new no, (k4.ke k5).k.dom _ no, ⟨_, upd_same, (hU.append (hTm.ke k5)).new no⟩, (huo.mono (by split <;> omega)).append hmo, by rw [List.length_append]; omega⟩
    refine ⟨_, rfl, rfl, _, rfl, ite2 (fun _ => ?_) (fun _ => ?_)⟩
    · refine ⟨_, rfl, _, rfl, p, _, rfl, k4.d, hs0, by omega, fun H5 l1 us k5 nl1 hTL hul huo => ?_⟩
      obtain ⟨qs, hl1, hU⟩ := hTL
      have hTm5 := hTm.dk k5 k4.d
      refine ⟨_, rfl, l1, lm, _, _, rfl, rfl, hl1, k5.lst hlm nlmp, by rw [hU.length, hrs3]; omega, fun o no => ?_⟩
      exact ⟨o, us ++ ms, rfl, (k4.trans k5).new no, (k4.trans k5).k.dom _ no, ⟨_, upd_same, (hU.append hTm5).new no⟩, huo.append hmo, by rw [List.length_append]; omega⟩
    refine ⟨_, rfl, rfl, _, rfl, ite2 (fun _ => ?_) (fun _ => ?_)⟩
    · refine ⟨by show 2 ≤ sizeLine; decide, fun t nt => ⟨by show 1 ≤ sizeLine; decide, fun z nz => ?_⟩⟩
      have k5 : Dk p H4 (upd (upd H4 t (.tup [.int 0, .int 1])) z (.lst [.ref t])) := ((Dk.refl k4.d).new nt).new nz
      have nHz : H z = none := (k4.k.trans (Ke.new nt)).dom _ nz
      have hz5 : (upd (upd H4 t (.tup [.int 0, .int 1])) z (.lst [.ref t])) z = some (.lst [.ref t]) := upd_same
      have ht5 : (upd (upd H4 t (.tup [.int 0, .int 1])) z (.lst [.ref t])) t = some (.tup [.int 0, .int 1]) := by rw [upd_ne (upd_none nz).1.symm, upd_same]
      generalize upd (upd H4 t (.tup [.int 0, .int 1])) z (.lst [.ref t]) = H5 at *
      refine ⟨_, rfl, p, rfl, k5.d, fun r5 H6 c0 c1 k6 => ?_⟩
      have e5 := emod_bds r5 (n := m + 1) (by omega)
      have k56 := k5.trans k6
      refine ⟨_, rfl, _, _, rfl, rfl, _, _, rfl, rfl, by omega, z, _, _, rfl, rfl, k6.lst hz5 (hd.ne nHz).symm, by omega, by omega, by show 1 * _ ≤ sizeLine; omega, fun y ny => ?_⟩
      have hT7 := (hTm.dk k56 k4.d).new (o := .lst (List.replicate (r5 % (m + 1)).toNat [V.ref t]).flatten) ny
      have hR := (Ties.rep (k6.tup k5.d ht5) (r5 % (m + 1)).toNat).new (o := .lst (List.replicate (r5 % (m + 1)).toNat [V.ref t]).flatten) ny
      have hlm7 : upd H6 y (.lst (List.replicate (r5 % (m + 1)).toNat [V.ref t]).flatten) lm = some (.lst rs3) := lst_new ny (k56.lst hlm nlmp)
      have hrl := hR.length
      rw [List.length_replicate] at hrl
      refine ⟨_, rfl, y, lm, _, _, rfl, rfl, upd_same, hlm7, by rw [hrl, hrs3]; omega, fun o no => ?_⟩
      exact ⟨o, List.replicate (r5 % (m + 1)).toNat (0, 1) ++ ms, rfl, ((k4.trans k56).new ny).new no, ((k4.trans k56).new (o := .lst (List.replicate (r5 % (m + 1)).toNat [V.ref t]).flatten) ny).k.dom _ no, ⟨_, upd_same, (hR.append hT7).new no⟩, (TOk.rep (by decide) (by decide) (by omega) _).append hmo, by rw [List.length_append, List.length_replicate]; omega⟩
    · refine ⟨_, rfl, _, rfl, p, _, rfl, k4.d, hs0, by omega, fun H5 l1 us k5 nl1 hTL hul huo => ?_⟩
      obtain ⟨qs, hl1, hU⟩ := hTL
      have nHl1 := k4.k.dom _ nl1
      refine ⟨_, rfl, _, rfl, p, _, rfl, k5.d, hs0, by omega, fun H6 l2 ws k6 nl2 hTL2 hwl hwo => ?_⟩
      obtain ⟨xs2, hl2, hW⟩ := hTL2
      refine ⟨l1, l2, _, _, rfl, rfl, k6.lst hl1 (hd.ne nHl1).symm, hl2, by rw [hU.length, hW.length]; omega, fun o no => ?_⟩
      have k7 := k6.new (o := .lst (qs ++ xs2)) no
      have hUW := ((hU.dk k6 k5.d).append hW).new (o := .lst (qs ++ xs2)) no
      have nHo := ((k4.trans k5).trans k6).k.dom _ no
      have ho : upd H6 o (.lst (qs ++ xs2)) o = some (.lst (qs ++ xs2)) := upd_same
      generalize upd H6 o (.lst (qs ++ xs2)) = H7 at *
      have k57 := k5.trans k7
      refine ⟨_, rfl, _, rfl, p, rfl, k57.d, fun r8 H8 c0 c1 k8 => ?_⟩
      have e8 := emod_bds r8 (n := 2) (by decide)
      refine ⟨_, _, rfl, rfl, (by show (0 : Int) < 2; decide), _, rfl, lm, _, rfl, sqL_of ((k57.trans k8).lst hlm nlmp), fun x nx => ?_⟩
      rw [cut_to' _ e8.1]
      have hTx := ((hTm.dk (k57.trans k8) k4.d).take (r8 % 2).toNat).new (o := .lst (rs3.take (r8 % 2).toNat)) nx
      have hUx := (hUW.dk k8 k57.d).new (o := .lst (rs3.take (r8 % 2).toNat)) nx
      have hox := lst_new (o := .lst (rs3.take (r8 % 2).toNat)) nx (k8.lst ho (hd.ne nHo).symm)
      have hlx := hTx.length
      rw [List.length_take, List.length_take] at hlx
      have hly := hUx.length
      rw [List.length_append, List.length_append] at hly
      refine ⟨o, x, _, _, rfl, rfl, hox, upd_same, by rw [List.length_append, List.length_take]; omega, fun y ny => ?_⟩
      have kz := (k4.trans (k57.trans k8)).new (o := .lst (rs3.take (r8 % 2).toNat)) nx
      refine ⟨y, (us ++ ws) ++ ms.take (r8 % 2).toNat, rfl, kz.new ny, kz.k.dom _ ny, ⟨_, upd_same, (hUx.append hTx).new ny⟩, (huo.append hwo).append (hmo.sub fun t ht => List.mem_of_mem_take ht), ?_⟩
      rw [List.length_append, List.length_append, List.length_take]
      omega
  · -- turned, and cut
    obtain ⟨l, ts, rfl, kG, nl, ⟨qs, hl, hT⟩, hok, hlen⟩ := hG
    have hql : qs.length = ts.length := hT.length
    refine ⟨_, rfl, p, rfl, kG.d, fun r9 H9 c0 c1 k9 => ?_⟩
    have nlp : l ≠ p := (hd.ne nl).symm
    have hl9 := k9.lst hl nlp
    have hT9 := hT.dk k9 kG.d
    refine ⟨_, rfl, l, _, rfl, .inl (sqL_of hl9), _, _, rfl, _, _, rfl, rfl, by split <;> omega, ?_⟩
    have e9 := emod_bds r9 (n := if (qs.length : Int) > 1 then (qs.length : Int) else 1) (by split <;> omega)
    obtain ⟨d, hdd⟩ : ∃ d : Nat, (d : Int) = r9 % (if (qs.length : Int) > 1 then (qs.length : Int) else 1) := ⟨_, Int.toNat_of_nonneg e9.1⟩
    have cf : ∀ xs : List V, cutV xs (some (r9 % (if (qs.length : Int) > 1 then (qs.length : Int) else 1))) none = xs.drop d := fun xs => by rw [← hdd, cut_from]
    have ct : ∀ xs : List V, cutV xs none (some (r9 % (if (qs.length : Int) > 1 then (qs.length : Int) else 1))) = xs.take d := fun xs => by rw [← hdd, cut_to]
    refine ⟨_, rfl, _, rfl, _, rfl, _, rfl, l, _, rfl, sqL_of hl9, fun x nx => ?_⟩
    rw [cf]
    have hlx := lst_new (o := .lst (qs.drop d)) nx hl9
    refine ⟨_, rfl, _, rfl, _, rfl, l, _, rfl, sqL_of hlx, fun y ny => ?_⟩
    rw [ct]
    have hxy := lst_new (o := .lst (qs.take d)) ny (show upd H9 x (.lst (qs.drop d)) x = _ from upd_same)
    refine ⟨x, y, _, _, rfl, rfl, hxy, upd_same, by rw [List.length_drop, List.length_take]; omega, fun z nz => ?_⟩
    refine ⟨_, rfl, _, rfl, z, _, rfl, sqL_of upd_same, fun w nw => ?_⟩
    rw [cut_to' _ hm0]
    refine ⟨w, _, rfl, .inl ⟨sqL_of upd_same, fun u nu => ?_⟩⟩
    refine ⟨by show 2 ≤ sizeLine; decide, fun t nt => ?_⟩
    refine q _ _ _ _ (((((((kG.trans k9).new nx).new ny).new nz).new nw).new nu).new nt) ⟨t, u, _, rfl, upd_same, ?_, ((((((((hT9.drop d).append (hT9.take d)).take m.toNat).new nx).new ny).new nz).new nw).new nu).new nt⟩ hs0 hs1 ?_ (hok.sub fun t ht => ?_)
    · rw [upd_ne (upd_none nt).1.symm, upd_same]
    · rw [List.length_take]
      omega
    · rcases List.mem_append.mp (List.mem_of_mem_take ht) with ht | ht
      · exact List.mem_of_mem_drop ht
      · exact List.mem_of_mem_take ht
theorem ok__law_heads {P : Program} {w : World} {K : PySem.W.Frag} {mg : Str → Option Value} {base : Heap} {tb : List Addr} {f : Addr} {fd : FuncData} (T : Blt mg) (D__law_heads : DefAt K mg "_law_heads" s_law_heads ["_law_points", "_law_ties"] f fd) (XC : Xcs xfs K mg) :
    FnOk P w K mg base CX0 1 f fd ["_law_points", "_law_ties"] (sp__law_heads K tb) := by
  refine D__law_heads.ok sc__law_heads (fun vs H Q E h => by
    obtain ⟨n, u, rs, ts, rfl, hu, hT, hok, hn0, hn1, q⟩ := h
    all_goals rfl) fun A outer s H vs Q E hr h => ?_
  obtain ⟨n, u, rs, ts, rfl, hu, hT, hok, hn0, hn1, q⟩ := h
  refine ⟨_, pss_cons (ps_set (i := 2) sc__law_heads.nd rfl (.inl rfl) (pe_listRg rfl (by rfl) T.b_list (prg_1 (by rfl) T.b_range (pv 0))))
     (pss_cons (ps_for PassesOwn.never rfl (pi_list (pv 1)) (tgtK (K := K) (n := 2) (pgs_cons (pg_name (i := 3) sc__law_heads.nd rfl (.inl rfl)) (pgs_cons (pg_name (i := 4) sc__law_heads.nd rfl (.inl rfl)) pgs_nil)))
     (pss_cons (ps_set (i := 5) sc__law_heads.nd rfl (.inr rfl) (pe_ix (ix_listK (K := K)) (pv 2) (pv 3) (fun _ _ => rfl)))
     (pss_cons (ps_set (i := 6) sc__law_heads.nd rfl (.inr rfl) (pe_ix (ix_listK (K := K)) (pv 2) (pv 4) (fun _ _ => rfl)))
     (pss_one (ps_setLc (i := 2) (own := [("_law_head", 7)]) rfl sc__law_heads.nd rfl rfl (sw_true rfl rfl rfl (by decide +kernel)) (pi_list (pv 2)) (blkOk_by (own := [("_law_head", 7)]) (N := nm__law_heads) (sc := defScope s_law_heads) (by decide +kernel)) (fun _ _ _ _ _ => pg_name (i := 7) sc__law_heads.nd rfl (.inl rfl)) (fun _ _ _ _ _ => pts_nil) (fun _ _ _ _ _ => pe_ix (ix_listK (K := K)) (pe_lst (pa_cons (pv 7) (pa_cons (pe_callB (call_min2 rfl) (by rfl) T.b_min (by decide +kernel) (pa_cons (pv 5) (pa_cons (pv 6) pa_nil))) pa_nil))) (pe_callTy call_int1 (by rfl) T.b_int (by decide +kernel) (pa_cons (pe_cmpR (in_seqK (K := K)) (pv 7) (pe_lst (pa_cons (pv 5) (pa_cons (pv 6) pa_nil))) (by rfl)) pa_nil)) (fun _ _ => rfl)))))))
     (pss_one (ps_ret (pv 2)))), ?_⟩
  refine ⟨_, rfl, n, rfl, ⟨by omega, by omega, by omega, by omega, by omega⟩, fun l nl => ?_⟩
  refine ⟨_, rfl, u, rfl, ⟨_, sqL_of (lst_new nl hu)⟩, ?_⟩
  refine for_list (K := K) (a := u) (xs := rs) (fun i σ G => ∃ (y3 y4 y5 y6 y7 : Option V) (l' : Addr), σ = [some (.int n), some (.ref u), some (.ref l'), y3, y4, y5, y6, y7] ∧ Ke H G ∧ G l' = some (.lst ((headsF (upTo n) (ts.take i)).map V.int))) ⟨_, _, _, _, _, l, rfl, Ke.new nl, by rw [upd_same, rgV_up]; rfl⟩ (fun i σ G _ hG => ?_) (fun i x σ G hx hG => ?_) (fun σ G hG => ?_)
  · obtain ⟨_, _, _, _, _, _, _, kG, _⟩ := hG
    exact sqL_of (kG.lst hu)
  · obtain ⟨y3, y4, y5, y6, y7, l', rfl, kG, gl⟩ := hG
    obtain ⟨⟨x1, x2⟩, r', hti, rfl, hr'⟩ := hT.get hx
    obtain ⟨ok1, ok2, ok3⟩ := hok _ (List.mem_of_getElem? hti)
    dsimp only at ok1 ok2 ok3
    have en : headsF (upTo n) (ts.take (i + 1)) = hstep (headsF (upTo n) (ts.take i)) (x1, x2) := by rw [take_next hti, headsF_snoc]
    have hl : ((headsF (upTo n) (ts.take i)).length : Int) = n := by rw [headsF_length, upTo_length]; omega
    obtain ⟨hs, ehs⟩ : ∃ hs, hs = headsF (upTo n) (ts.take i) := ⟨_, rfl⟩
    rw [← ehs] at en hl gl
    refine ⟨r', _, rfl, sqT_of (kG.tup hr'), rfl, _, _, rfl, _, [], rfl, rfl, ?_⟩
    refine ⟨_, rfl, _, rfl, l', _, _, _, rfl, rfl, sqL_of gl, hat_at ok1 (by omega), ?_⟩
    refine ⟨_, rfl, _, rfl, l', _, _, _, rfl, rfl, sqL_of gl, hat_at (x := x2) (by omega) (by omega), ?_⟩
    refine ⟨_, rfl, l', rfl, ⟨_, sqL_of gl⟩, fun D hD => ?_⟩
    refine lc_list (K := K) (a := l') (xs := hs.map V.int) (fun j G' => Ke H G' ∧ G' l' = some (.lst (hs.map V.int)) ∧ G' D = some (.lst (((hs.take j).map (mrg (hat hs x1) (hat hs x2))).map V.int))) ⟨kG.trans (Ke.new hD), lst_new hD gl, upd_same⟩ (fun j G' _ hG' => sqL_of hG'.2.1) (fun j x G' hx' hG' => ?_) (fun G' hG' => ?_)
    · obtain ⟨kG', gl', gD'⟩ := hG'
      obtain ⟨h, hh, rfl⟩ := int_at hx'
      refine ⟨rfl, yes_ite ?_⟩
      refine ⟨_, rfl, _, rfl, _, rfl, _, _, rfl, by show 2 ≤ sizeLine; decide, fun b nb => ?_⟩
      refine ⟨_, rfl, _, rfl, _, rfl, by show 2 ≤ sizeLine; decide, fun c nc => ?_⟩
      refine ⟨c, [hat hs x1, hat hs x2].map V.int, rfl, .inl (sqL_of upd_same), rfl, rfl, .inr ⟨_, rfl, ?_⟩⟩
      have hj : j < hs.length := (List.getElem?_eq_some_iff.mp hh).1
      have e0 : ((hs.take (j + 1)).map (mrg (hat hs x1) (hat hs x2))).map V.int = ((hs.take j).map (mrg (hat hs x1) (hat hs x2))).map V.int ++ [V.int (mrg (hat hs x1) (hat hs x2) h)] := by rw [take_next hh, List.map_append, List.map_append]; rfl
      refine ⟨b, [V.int h, V.int (if hat hs x2 < hat hs x1 then hat hs x2 else hat hs x1)], _, V.int (mrg (hat hs x1) (hat hs x2) h), rfl, rfl, sqL_of (lst_new nc upd_same), ?_, _, lst_new nc (lst_new nb gD'), ?_, ?_⟩
      · show atI [V.int h, V.int (if hat hs x2 < hat hs x1 then hat hs x2 else hat hs x1)] (if inV (V.int h) ([hat hs x1, hat hs x2].map V.int) = true then 1 else 0) = _
        rw [inV_int]
        have em : (if hat hs x2 < hat hs x1 then hat hs x2 else hat hs x1) = min (hat hs x1) (hat hs x2) := by
          rw [Int.min_def]
          split <;> split <;> omega
        rw [em]
        unfold mrg
        by_cases z : h = hat hs x1 ∨ h = hat hs x2
        · have d : decide (h ∈ [hat hs x1, hat hs x2]) = true := decide_eq_true (by simpa using z)
          rw [d, if_pos rfl, if_pos z]
          rfl
        · have d : decide (h ∈ [hat hs x1, hat hs x2]) = false := decide_eq_false (by simpa using z)
          rw [d, if_neg (by decide), if_neg z]
          rfl
      · rw [List.length_map, List.length_map, List.length_take]
        have := line_big
        omega
      · rw [← e0]
        exact ⟨((kG'.trans (Ke.new nb)).trans (Ke.new nc)).over (kG.dom _ hD), by
          rw [upd_ne (ne_of_none gl hD)]
          exact lst_new nc (lst_new nb gl'), upd_same⟩
    · obtain ⟨kG', gl', gD'⟩ := hG'
      rw [List.length_map, List.take_length] at gD'
      exact ⟨_, _, _, _, _, D, rfl, kG', by rw [en]; exact gD'⟩
  · obtain ⟨_, _, _, _, _, l', rfl, kG, gl⟩ := hG
    rw [hT.length, List.take_length] at gl
    exact ⟨_, rfl, q l' G kG gl⟩
theorem ok__law_is_forest {P : Program} {w : World} {K : PySem.W.Frag} {mg : Str → Option Value} {base : Heap} {tb : List Addr} {f : Addr} {fd : FuncData} {f__law_heads : Addr} {fd__law_heads : FuncData} (T : Blt mg) (D__law_is_forest : DefAt K mg "_law_is_forest" s_law_is_forest ["_law_points", "_law_ties"] f fd) (XC : Xcs xfs K mg) (D__law_heads : DefAt K mg "_law_heads" s_law_heads ["_law_points", "_law_ties"] f__law_heads fd__law_heads) (G__law_heads : FnOk P w K mg base CX0 1 f__law_heads fd__law_heads ["_law_points", "_law_ties"] (sp__law_heads K tb)) :
    FnOk P w K mg base CX0 2 f fd ["_law_points", "_law_ties"] (sp__law_is_forest K tb) := by
  refine D__law_is_forest.ok sc__law_is_forest (fun vs H Q E h => by
    obtain ⟨n, u, rs, ts, rfl, hu, hT, hok, hn0, hn1, q⟩ := h
    all_goals rfl) fun A outer s H vs Q E hr h => ?_
  obtain ⟨n, u, rs, ts, rfl, hu, hT, hok, hn0, hn1, q⟩ := h
  refine ⟨_, pss_one (ps_ret (pe_cmpR op_eq (pe_op op_add (pe_callB (lenK (K := K)) (by rfl) T.b_len PySem.boot_len (pa_cons (pv 1) pa_nil)) (pe_lenSetL (by rfl) T.b_len (by rfl) T.b_set (pe_call G__law_heads (hr.mono (by decide)) (by rfl) D__law_heads.g D__law_heads.F.kp D__law_heads.b .nil pass0 (pa_cons (pv 0) (pa_cons (pv 1) pa_nil))))) (pv 0) (nomark _))), ?_⟩
  refine ⟨_, rfl, u, rs, rfl, .inl (sqL_of hu), ?_⟩
  refine ⟨_, rfl, _, rfl, n, u, rs, ts, rfl, hu, hT, hok, hn0, hn1, fun l H1 k1 hl => ?_⟩
  refine ⟨l, _, rfl, sqL_of hl, ?_, ?_⟩
  · rw [headsF_length, upTo_length]
    omega
  refine ⟨_, _, rfl, rfl, ?_⟩
  refine ⟨_, rfl, rfl, ?_⟩
  have q1 := q H1 k1
  rw [forest_iff hn0 hok] at q1
  rw [decide_int, hT.length]
  exact q1
theorem ok__law_laying {P : Program} {w : World} {K : PySem.W.Frag} {mg : Str → Option Value} {base : Heap} {tb : List Addr} {f : Addr} {fd : FuncData} {f__law_next : Addr} {fd__law_next : FuncData} {f__law_is_forest : Addr} {fd__law_is_forest : FuncData} (T : Blt mg) (D__law_laying : DefAt K mg "_law_laying" s_law_laying ["_law_deck_here", "_law_web_here"] f fd) (XC : Xcs xfs K mg) (D__law_next : DefAt K mg "_law_next" s_law_next ["_law_deck_here"] f__law_next fd__law_next) (G__law_next : FnOk P w K mg base CX0 1 f__law_next fd__law_next ["_law_deck_here"] (sp__law_next K tb)) (D__law_is_forest : DefAt K mg "_law_is_forest" s_law_is_forest ["_law_points", "_law_ties"] f__law_is_forest fd__law_is_forest) (G__law_is_forest : FnOk P w K mg base CX0 2 f__law_is_forest fd__law_is_forest ["_law_points", "_law_ties"] (sp__law_is_forest K tb)) :
    FnOk P w K mg base CX0 3 f fd ["_law_deck_here", "_law_web_here"] (sp__law_laying K tb) := by
  refine D__law_laying.ok sc__law_laying (fun vs H Q E h => by
    obtain ⟨p, v, n, ts, rfl, hd, W, hok, hn0, hn1, hlen, q⟩ := h
    all_goals rfl) fun A outer s H vs Q E hr h => ?_
  obtain ⟨p, v, n, ts, rfl, hd, W, hok, hn0, hn1, hlen, q⟩ := h
  refine ⟨_, pss_cons (ps_set (i := 2) sc__law_laying.nd rfl (.inr rfl) (pe_lst pa_nil))
     (pss_cons (ps_set (i := 3) sc__law_laying.nd rfl (.inl rfl) (pe_lst pa_nil))
     (pss_cons (ps_for PassesOwn.never rfl (pi_enumT (K := K) (by rfl) T.b_enumerate (pa_cons (pe_ix (ix_tupK (K := K)) (pv 1) (pe_int) (fun _ _ => rfl)) pa_nil)) (tgtK (K := K) (n := 2) (pgs_cons (pg_name (i := 4) sc__law_laying.nd rfl (.inl rfl)) (pgs_cons (pg_name (i := 5) sc__law_laying.nd rfl (.inr rfl)) pgs_nil)))
     (pss_cons (ps_set (i := 6) sc__law_laying.nd rfl (.inl rfl) (pe_op op_mod (pe_call G__law_next (hr.mono (by decide)) (by rfl) D__law_next.g D__law_next.F.kp D__law_next.b .nil pass0 (pa_cons (pv 0) pa_nil)) (pe_op op_add (pe_callB (lenK (K := K)) (by rfl) T.b_len PySem.boot_len (pa_cons (pv 2) pa_nil)) (pe_int))))
     (pss_cons (ps_set (i := 7) sc__law_laying.nd rfl (.inl rfl) (pe_op op_cat (pe_slice (sl_listK (K := K)) (pe_listRg rfl (by rfl) T.b_list (prg_1 (by rfl) T.b_range (pe_callB (lenK (K := K)) (by rfl) T.b_len PySem.boot_len (pa_cons (pv 2) pa_nil)))) (po_some (pv 6)) po_none) (pe_slice (sl_listK (K := K)) (pe_listRg rfl (by rfl) T.b_list (prg_1 (by rfl) T.b_range (pe_callB (lenK (K := K)) (by rfl) T.b_len PySem.boot_len (pa_cons (pv 2) pa_nil)))) po_none (po_some (pv 6)))))
     (pss_cons (ps_setLc (i := 10) (own := [("_law_k", 8)]) rfl sc__law_laying.nd rfl rfl (sw_true rfl rfl rfl (by decide +kernel)) (pi_list (pv 7)) (blkOk_by (own := [("_law_k", 8)]) (N := nm__law_laying) (sc := defScope s_law_laying) (by decide +kernel)) (fun _ _ _ _ _ => pg_name (i := 8) sc__law_laying.nd rfl (.inl rfl)) (fun _ _ _ _ _ => pts_one (pt_val (pe_call G__law_is_forest (hr.mono (by decide)) (by rfl) D__law_is_forest.g D__law_is_forest.F.kp D__law_is_forest.b .nil pass0 (pa_cons (pe_ix (ix_tupK (K := K)) (pv 1) (pe_int) (fun _ _ => rfl)) (pa_cons (pe_op op_cat (pe_lc (own := [("_law_other", 9)]) rfl sc__law_laying.nd ((pi_listK (K := K)) (pe_ix (ix_listK (K := K)) (pv 2) (pv 8) (fun _ _ => rfl))) (blkOk_by (own := [("_law_other", 9)]) (N := nm__law_laying) (sc := relS csc__law_laying_6_20 (defScope s_law_laying)) (by decide +kernel)) (fun _ _ _ _ _ => pg_name (i := 9) sc__law_laying.nd rfl (.inl rfl)) (fun _ _ _ _ _ => pts_nil) (fun _ _ _ _ _ => pe_ix (ix_tupK (K := K)) (pe_ix (ix_tupK (K := K)) (pv 1) (pe_int) (fun _ _ => rfl)) (pv 9) (fun _ _ => rfl))) (pe_lst (pa_cons (pv 5) pa_nil))) pa_nil))))) (fun _ _ _ _ _ => pv 8))
     (C8.pss_cut (ps_if (pt_cmpR (eqDK (K := K) hr.units) (pv 10) (pe_lst pa_nil) (nomark _))
     (pss_cons (ps_set (i := 10) sc__law_laying.nd rfl (.inl rfl) (pe_lst (pa_cons (pe_callB (lenK (K := K)) (by rfl) T.b_len PySem.boot_len (pa_cons (pv 2) pa_nil)) pa_nil)))
     (pss_one (ps_expr (pe_bm PySem.F.plainAttrs_list PySem.F.slot_list_append PySem.F.type_list_append mt_append (pv 2) (pa_cons (pe_lst pa_nil) pa_nil)))))
     (pss_nil))
     (pss_cons (ps_expr (pe_bm PySem.F.plainAttrs_list PySem.F.slot_list_append PySem.F.type_list_append mt_append (pe_ix (ix_listK (K := K)) (pv 2) (pe_ix (ix_listK (K := K)) (pv 10) (pe_int) (fun _ _ => rfl)) (fun _ _ => rfl)) (pa_cons (pv 4) pa_nil)))
     (pss_one (ps_expr (pe_bm PySem.F.plainAttrs_list PySem.F.slot_list_append PySem.F.type_list_append mt_append (pv 3) (pa_cons (pe_ix (ix_listK (K := K)) (pv 10) (pe_int) (fun _ _ => rfl)) pa_nil))))))))))
     (pss_one (ps_ret (pe_tup (pa_cons (pe_callB (lenK (K := K)) (by rfl) T.b_len PySem.boot_len (pa_cons (pv 2) pa_nil)) (pa_cons (pe_callTy (tupleK (K := K)) (by rfl) T.b_tuple (by decide +kernel) (pa_cons (pv 3) pa_nil)) pa_nil))))))), ?_⟩
  have LB := line_big
  obtain ⟨t, w, rs, rfl, ht, hw, hT⟩ := id W
  have hrl := hT.length
  refine ⟨by show 0 ≤ sizeLine; decide, fun a na => ?_⟩
  refine ⟨by show 0 ≤ sizeLine; decide, fun b nb => ?_⟩
  obtain ⟨nba, nb0⟩ := upd_none nb
  have nap : a ≠ p := (hd.ne na).symm
  have nbp : b ≠ p := (hd.ne nb0).symm
  have k0 : Dk p H (upd (upd H a (.lst [])) b (.lst [])) := ((Dk.refl hd).new na).new nb
  have ga0 : (upd (upd H a (.lst [])) b (.lst [])) a = some (.lst []) := lst_new nb upd_same
  refine ⟨_, rfl, t, _, 1, _, rfl, rfl, sqT_of (k0.tup hd ht), atI_nat (j := 1) rfl, w, rs, rfl, sqT_of (k0.tup hd hw), ?_⟩
  refine for_it (walk_enumT (K := K) (a := w) (xs := rs)) (fun i σ G => ∃ (y4 y5 y6 y7 y8 y9 y10 : Option V) (fs : List Addr) (ws : List V), σ = [some (.ref p), some (.ref t), some (.ref a), some (.ref b), y4, y5, y6, y7, y8, y9, y10] ∧ Dk p H G ∧ Lays G a fs ws ∧ G b = some (.lst ws) ∧ b ∉ fs ∧ (∀ q ∈ fs, H q = none) ∧ fs.length ≤ i ∧ Laid (ts.take i) fs.length ws) ⟨_, _, _, _, _, _, _, [], [], rfl, k0, ⟨ga0, List.nodup_nil, (fun z => nomatch z), fun j x hx => by simp at hx⟩, upd_same, (fun z => nomatch z), (fun _ z => nomatch z), Nat.le_refl _, ⟨rfl, (fun _ z => nomatch z), fun _ => rfl⟩⟩ (fun i σ G _ hG => ?_) (fun i x σ G G' hi hG hy => ?_) (fun σ G hG => ?_)
  · obtain ⟨_, _, _, _, _, _, _, _, _, _, kG, _⟩ := hG
    exact sqT_of (kG.tup hd hw)
  · obtain ⟨y4, y5, y6, y7, y8, y9, y10, fs, ws, rfl, kG, LG, gb, nbf, hfr, hfl, hLd⟩ := hG
    obtain ⟨T1, z1, z2, rfl, nT, rfl, e1, e2⟩ := hy
    have e1 : some (V.int (i : Int)) = some z1 := e1
    have e2 : rs[i]? = some z2 := e2
    cases e1
    obtain ⟨tt, qq, hti, rfl, hq⟩ := hT.get e2
    have il : i < ts.length := (List.getElem?_eq_some_iff.mp hti).1
    have hwl : ws.length = i := by rw [hLd.len, List.length_take]; omega
    have tok := hok tt (List.mem_of_getElem? hti)
    have kT : Ke G (upd G T1 (.tup [.int (i : Int), .ref qq])) := Ke.new nT
    refine ⟨T1, _, rfl, sqT_of upd_same, rfl, _, _, rfl, _, [], rfl, rfl, ?_⟩
    refine ⟨_, rfl, p, rfl, (kG.ke kT).d, fun r G1 r0 r1 k1 => ?_⟩
    have L1 : Lays G1 a fs ws := (LG.ke kT).kx k1.k nap fun x hx z => (hd.ne (hfr x hx)) z.symm
    have gb1 : G1 b = some (.lst ws) := k1.lst (kT.lst gb) nbp
    have kH1 : Dk p H G1 := (kG.ke kT).trans k1
    have er := emod_bds r (n := ((fs.map V.ref).length : Int) + 1) (by omega)
    have hfl2 : (fs.map V.ref).length = fs.length := List.length_map ..
    refine ⟨_, rfl, a, _, rfl, .inl (sqL_of L1.at_), _, _, rfl, rfl, _, _, rfl, rfl, by omega, ?_⟩
    refine ⟨_, rfl, a, _, rfl, .inl (sqL_of L1.at_), _, rfl, ⟨by omega, by omega, by omega, by omega, by omega⟩, fun l1 nl1 => ?_⟩
    refine ⟨_, rfl, _, rfl, l1, _, rfl, sqL_of upd_same, fun l2 nl2 => ?_⟩
    refine ⟨_, rfl, a, _, rfl, .inl (sqL_of (lst_new nl2 (lst_new nl1 L1.at_))), _, rfl, ⟨by omega, by omega, by omega, by omega, by omega⟩, fun l3 nl3 => ?_⟩
    refine ⟨_, rfl, _, rfl, l3, _, rfl, sqL_of upd_same, fun l4 nl4 => ?_⟩
    have hlr : (rgV 0 ((fs.map V.ref).length : Int)).length = fs.length := by rw [rgV_up, List.length_map, upTo_length]; omega
    refine ⟨l2, l4, _, _, rfl, rfl, lst_new nl4 (lst_new nl3 upd_same), upd_same, ?_, fun l5 nl5 => ?_⟩
    · rw [cut_from' _ er.1, cut_to' _ er.1, List.length_drop, List.length_take, hlr]
      omega
    generalize eG : upd _ l5 _ = G2
    have kP : Ke G1 G2 := eG ▸ ((((Ke.new nl1).trans (Ke.new nl2)).trans (Ke.new nl3)).trans (Ke.new nl4)).trans (Ke.new nl5)
    obtain ⟨ps, hps, gP⟩ : ∃ ps : List Int, (∀ x ∈ ps, 0 ≤ x ∧ x < fs.length) ∧ ps.length = fs.length ∧ G2 l5 = some (.lst (ps.map V.int)) := by
      refine ⟨(upTo fs.length).drop (r % (((fs.map V.ref).length : Int) + 1)).toNat ++ (upTo fs.length).take (r % (((fs.map V.ref).length : Int) + 1)).toNat, fun x hx => ?_, ?_, ?_⟩
      · rcases List.mem_append.mp hx with hx | hx
        · exact mem_upTo (List.mem_of_mem_drop hx)
        · exact mem_upTo (List.mem_of_mem_take hx)
      · rw [List.length_append, List.length_drop, List.length_take, upTo_length]
        omega
      · rw [← eG, upd_same, cut_from' _ er.1, cut_to' _ er.1, rgV_up, hfl2, List.map_append, List.map_drop, List.map_take]
    clear eG nl5 nl4 nl3 nl2 nl1
    obtain ⟨hpl, gP⟩ := gP
    have L2' : Lays G2 a fs ws := L1.ke kP
    have kH2 : Dk p H G2 := kH1.ke kP
    have gb2 := kP.lst gb1
    -- the free layers
    refine ⟨_, rfl, l5, rfl, ⟨_, sqL_of gP⟩, fun D hD => ?_⟩
    have nDH : H D = none := kH2.k.dom _ hD
    refine lc_list (K := K) (a := l5) (xs := ps.map V.int) (fun j G' => Ke G2 G' ∧ G' D = some (.lst (((ps.take j).filter (freeB (ts.take i) ws tt)).map V.int))) ⟨Ke.new hD, upd_same⟩ (fun j G' _ hG' => sqL_of (hG'.1.lst gP)) (fun j x G' hx' hG' => ?_) (fun G' hG' => ?_)
    · obtain ⟨kG', gD'⟩ := hG'
      obtain ⟨f1, hf1, rfl⟩ := int_at hx'
      obtain ⟨f10, f11⟩ := hps f1 (List.mem_of_getElem? hf1)
      have kk := kH2.ke kG'
      have LG' := L2'.ke kG'
      have fl : f1.toNat < fs.length := by omega
      have hfq := List.getElem?_eq_getElem fl
      have gq := LG'.each _ _ hfq
      have hf1e : ((f1.toNat : Nat) : Int) = f1 := by omega
      rw [hf1e] at gq
      obtain ⟨fq, efq⟩ : ∃ fq, fq = fs[f1.toNat] := ⟨_, rfl⟩
      rw [← efq] at hfq gq
      refine ⟨rfl, ?_⟩
      refine ⟨_, rfl, t, _, 0, _, rfl, rfl, sqT_of (kk.tup hd ht), atI_nat (j := 0) rfl, ?_⟩
      refine ⟨_, rfl, _, rfl, a, _, _, .ref fq, rfl, rfl, sqL_of LG'.at_, ?_, fq, rfl, ⟨_, sqL_of gq⟩, fun D2 hD2 => ?_⟩
      · rw [← hf1e]
        exact atI_nat (by rw [List.getElem?_map, hfq]; rfl)
      have hnb : ∀ m ∈ numsFrom f1 0 ws, 0 ≤ m ∧ m < ts.length := fun m hm => by
        have := nums_bd f1 0 ws m hm
        omega
      have hnl := nums_length f1 0 ws
      refine lc_list (K := K) (a := fq) (xs := (numsFrom f1 0 ws).map V.int) (fun j2 G5 => ∃ qs, Ke G' G5 ∧ G5 D2 = some (.lst qs) ∧ Ties G5 qs (pick ts ((numsFrom f1 0 ws).take j2))) ⟨[], Ke.new hD2, upd_same, .nil⟩ (fun j2 G5 _ hG5 => by obtain ⟨_, k5, _⟩ := hG5; exact sqL_of (k5.lst gq)) (fun j2 x G5 hx5 hG5 => ?_) (fun G5 hG5 => ?_)
      · obtain ⟨qs, k5, gD5, hTq⟩ := hG5
        obtain ⟨m, hm, rfl⟩ := int_at hx5
        obtain ⟨m0, m1⟩ := hnb m (List.mem_of_getElem? hm)
        obtain ⟨e, he, hqe⟩ := hT.at_ m0 m1
        have kk5 := kk.ke k5
        refine ⟨rfl, yes_ite ?_⟩
        refine ⟨_, rfl, t, _, 1, _, rfl, rfl, sqT_of (kk5.tup hd ht), atI_nat (j := 1) rfl, _, rfl, w, _, m, _, rfl, rfl, sqT_of (kk5.tup hd hw), he, _, gD5, ?_, _, k5.over hD2, upd_same, ?_⟩
        · rw [hTq.length, pick_length, List.length_take]
          omega
        · rw [take_next hm]
          exact (Ties.pick1 hTq (kk5.tup hd hqe)).put gD5
      · obtain ⟨qs, k5, gD5, hTq⟩ := hG5
        rw [List.length_map, List.take_length, pick_layer hwl (Nat.le_of_lt il)] at hTq
        have kk5 := kk.ke k5
        have lq : qs.length ≤ 1000 := by
          rw [hTq.length]
          have := layerOf_length (ts.take i) ws f1
          rw [List.length_take] at this
          omega
        refine ⟨_, rfl, by show 1 ≤ sizeLine; decide, fun b2 nb2 => ?_⟩
        refine ⟨D2, b2, _, _, rfl, rfl, lst_new nb2 gD5, upd_same, by show qs.length + 1 ≤ sizeLine; omega, fun o no => ?_⟩
        have k6 : Ke G' (upd (upd G5 b2 (.lst [.ref qq])) o (.lst (qs ++ [.ref qq]))) := (k5.trans (Ke.new nb2)).trans (Ke.new no)
        refine ⟨n, o, _, layerOf (ts.take i) ws f1 ++ [tt], rfl, upd_same, ((hTq.append (Ties.one (kk5.tup hd hq))).new nb2).new no, (layerOf_ok (hok.sub fun x hx => List.mem_of_mem_take hx) _ _).append (TOk.one tok.1 tok.2.1 tok.2.2), hn0, hn1, fun G7 k7 => ?_⟩
        have k8 : Ke G' G7 := k6.trans k7
        have gD7 := k8.lst gD'
        have eb : (ps.take (j + 1)).filter (freeB (ts.take i) ws tt) = (ps.take j).filter (freeB (ts.take i) ws tt) ++ [f1].filter (freeB (ts.take i) ws tt) := by
          rw [take_next hf1]
          exact List.filter_append ..
        refine ⟨_, rfl, iteB (fun hb => ?_) (fun hb => ?_)⟩
        · have hb : freeB (ts.take i) ws tt f1 = true := hb
          refine ⟨_, rfl, _, gD7, ?_, (kG'.trans k8).over hD, ?_⟩
          · rw [List.length_map]
            have h1 : ((ps.take j).filter (freeB (ts.take i) ws tt)).length ≤ (ps.take j).length := List.length_filter_le _ _
            rw [List.length_take] at h1
            omega
          · rw [upd_same, eb, List.filter_cons_of_pos hb, List.map_append]
            rfl
        · have hb : freeB (ts.take i) ws tt f1 = false := hb
          exact ⟨kG'.trans k8, by rw [eb, List.filter_cons_of_neg (by rw [hb]; decide), List.filter_nil, List.append_nil]; exact gD7⟩
    obtain ⟨kG', gD'⟩ := hG'
    rw [List.length_map, List.take_length] at gD'
    have kk := kH2.ke kG'
    have LG' := L2'.ke kG'
    have gb' := kG'.lst gb2
    have nDa : D ≠ a := fun z => by rw [z, L2'.at_] at hD; cases hD
    have nDb : D ≠ b := fun z => by rw [z, gb2] at hD; cases hD
    have nDf : D ∉ fs := fun z => by
      obtain ⟨j, hj⟩ := List.getElem?_of_mem z
      rw [L2'.each j D hj] at hD
      cases hD
    refine ⟨fun σ G3 => ∃ (y6 y7 y8 y9 : Option V) (fr : Addr) (f1 : Nat) (rest : List V) (fs' : List Addr), σ = [some (.ref p), some (.ref t), some (.ref a), some (.ref b), some (.int (i : Int)), some (.ref qq), y6, y7, y8, y9, some (.ref fr)] ∧ Dk p H G3 ∧ Lays G3 a fs' ws ∧ G3 b = some (.lst ws) ∧ b ∉ fs' ∧ (∀ q ∈ fs', H q = none) ∧ fs'.length ≤ i + 1 ∧ fs.length ≤ fs'.length ∧ G3 fr = some (.lst (.int (f1 : Int) :: rest)) ∧ f1 < fs'.length ∧ freeB (ts.take i) ws tt (f1 : Int) = true ∧ fr ∉ fs' ∧ fr ≠ b, ?_, fun σ G3 hM => ?_⟩
    · refine ⟨_, rfl, by show 0 ≤ sizeLine; decide, fun z nz => ?_⟩
      refine ⟨.list ((ps.filter (freeB (ts.take i) ws tt)).map PyData.int), .list [], .lst (sqL_of (lst_new nz gD')) (dp_ints _), .lst (sqL_of upd_same) .nil, PySem.W.shaped_ints _, PySem.W.shaped_ints [], _, rfl, iteB (fun e => ?_) (fun e => ?_)⟩
      · have Lz := LG'.ke (Ke.new (o := .lst []) nz)
        have gbz := lst_new (o := .lst []) nz gb'
        refine ⟨_, rfl, a, _, rfl, .inl (sqL_of Lz.at_), by show 1 ≤ sizeLine; decide, fun fr nfr => ?_⟩
        have Lr := Lz.ke (Ke.new (o := .lst [.int ((fs.map V.ref).length : Int)]) nfr)
        have gbr := lst_new (o := .lst [.int ((fs.map V.ref).length : Int)]) nfr gbz
        refine ⟨_, rfl, .inl ⟨rfl, _, sqL_of Lr.at_⟩, by show 0 ≤ sizeLine; decide, fun e ne => ?_⟩
        have kr : Dk p H (upd (upd (upd G' z (.lst [])) fr (.lst [.int ((fs.map V.ref).length : Int)])) e (.lst [])) := ((kk.new nz).new nfr).new ne
        have Le := Lr.ke (Ke.new (o := .lst []) ne)
        refine ⟨a, _, _, rfl, rfl, Le.at_, by omega, ?_⟩
        have Lm := Lr.more ne hLd.num
        rw [List.map_append] at Lm
        have nea : e ≠ a := fun z => by rw [z, Lr.at_] at ne; cases ne
        have neb : e ≠ b := fun z => by rw [z, gbr] at ne; cases ne
        have nfra : fr ≠ a := fun z => by rw [z, Lz.at_] at nfr; cases nfr
        have nfrb : fr ≠ b := fun z => by rw [z, gbz] at nfr; cases nfr
        have nfre : e ≠ fr := fun z => by rw [z, upd_same] at ne; cases ne
        have nfrf : fr ∉ fs := fun z => by
          obtain ⟨j, hj⟩ := List.getElem?_of_mem z
          rw [Lz.each j fr hj] at nfr
          cases nfr
        have neH : H e = none := ((kk.new nz).new nfr).k.dom _ ne
        refine ⟨_, _, _, _, fr, fs.length, [], fs ++ [e], rfl, kr.over hd na, Lm, ?_, fun z => ?_, fun x hx => ?_, ?_, ?_, ?_, ?_, ?_, fun z => ?_, nfrb⟩
        · rw [upd_ne nba]
          exact lst_new ne gbr
        · rcases List.mem_append.mp z with z | z
          · exact nbf z
          · exact neb (List.mem_singleton.mp z).symm
        · rcases List.mem_append.mp hx with hx | hx
          · exact hfr x hx
          · rw [List.mem_singleton.mp hx]
            exact neH
        · rw [List.length_append]
          exact Nat.succ_le_succ hfl
        · rw [List.length_append]
          exact Nat.le_succ _
        · rw [upd_ne nfra, upd_ne nfre.symm, upd_same, hfl2]
        · rw [List.length_append]
          exact Nat.lt_succ_self _
        · exact hLd.new_free (by omega)
        · rcases List.mem_append.mp z with z | z
          · exact nfrf z
          · exact nfre (List.mem_singleton.mp z).symm
      · cases ef : ps.filter (freeB (ts.take i) ws tt) with
        | nil => rw [ef] at e; cases e
        | cons f2 rest =>
          have hm2 : f2 ∈ ps.filter (freeB (ts.take i) ws tt) := by rw [ef]; exact List.mem_cons_self
          obtain ⟨hm3, hm4⟩ := List.mem_filter.mp hm2
          obtain ⟨f20, f21⟩ := hps f2 hm3
          have e2 : ((f2.toNat : Nat) : Int) = f2 := by omega
          rw [ef] at gD'
          refine ⟨_, _, _, _, D, f2.toNat, rest.map V.int, fs, rfl, kk.new nz, LG'.ke (Ke.new nz), lst_new nz gb', nbf, hfr, by omega, Nat.le_refl _, ?_, by omega, by rw [e2]; exact hm4, nDf, nDb⟩
          rw [e2]
          exact lst_new nz gD'
    · obtain ⟨y6, y7, y8, y9, fr, f1, rest, fs', rfl, k3, L3, gb3, nbf3, hfr3, hfl3, hle, gfr, hf1, hfree, nfr3, nfrb⟩ := hM
      have hfq := List.getElem?_eq_getElem hf1
      obtain ⟨fq, efq⟩ : ∃ fq, fq = fs'[f1] := ⟨_, rfl⟩
      rw [← efq] at hfq
      have gq := L3.each _ _ hfq
      have hfqm := List.mem_of_getElem? hfq
      have hnl := nums_length (f1 : Int) 0 ws
      refine ⟨_, rfl, _, rfl, fr, _, 0, _, rfl, rfl, sqL_of gfr, atI_nat (j := 0) rfl, a, _, _, .ref fq, rfl, rfl, sqL_of L3.at_, atI_nat (by rw [List.getElem?_map, hfq]; rfl), .inl ⟨rfl, _, sqL_of gq⟩, _, rfl, fq, _, _, rfl, rfl, gq, by rw [List.length_map]; omega, ?_⟩
      have Lp := L3.put hfq
      rw [hwl] at Lp
      have nfq : fq ≠ fr := fun z => nfr3 (z ▸ hfqm)
      have nfqb : b ≠ fq := fun z => nbf3 (z ▸ hfqm)
      have kp := k3.over (o := .lst ((numsFrom (f1 : Int) 0 ws).map V.int ++ [.int (i : Int)])) hd (hfr3 _ hfqm)
      have gfrp : upd G3 fq (.lst ((numsFrom (f1 : Int) 0 ws).map V.int ++ [.int (i : Int)])) fr = some (.lst (.int (f1 : Int) :: rest)) := by rw [upd_ne nfq.symm]; exact gfr
      have gbp : upd G3 fq (.lst ((numsFrom (f1 : Int) 0 ws).map V.int ++ [.int (i : Int)])) b = some (.lst ws) := by rw [upd_ne nfqb]; exact gb3
      refine ⟨_, rfl, .inl ⟨rfl, _, sqL_of gbp⟩, _, rfl, fr, _, 0, _, rfl, rfl, sqL_of gfrp, atI_nat (j := 0) rfl, b, _, _, rfl, rfl, gbp, by omega, ?_⟩
      refine ⟨_, _, _, _, _, _, _, fs', ws ++ [.int (f1 : Int)], rfl, kp.over hd nb0, Lp.off nba nbf3, upd_same, nbf3, hfr3, hfl3, ?_⟩
      rw [take_next hti]
      exact hLd.snoc (by omega) (by omega) (by omega) hfree
  · obtain ⟨_, _, _, _, _, _, _, fs, ws, rfl, kG, LG, gb, nbf, hfr, hfl, hLd⟩ := hG
    rw [hrl] at hfl
    rw [hrl, List.take_length] at hLd
    refine ⟨_, rfl, a, _, rfl, .inl (sqL_of LG.at_), _, rfl, b, _, rfl, .inl ⟨sqL_of gb, fun c nc => ?_⟩⟩
    refine ⟨by show 2 ≤ sizeLine; decide, fun u nu => ?_⟩
    obtain ⟨nuc, nu0⟩ := upd_none nu
    rw [List.length_map] at *
    exact q _ u c fs.length ws ((kG.new nc).new nu) (kG.k.dom _ nu0) (kG.k.dom _ nc) upd_same (by rw [upd_ne nuc.symm]; exact upd_same) (by omega) (by omega) hLd
theorem ok__law_names {P : Program} {w : World} {K : PySem.W.Frag} {mg : Str → Option Value} {base : Heap} {tb : List Addr} {f : Addr} {fd : FuncData} {f__law_next : Addr} {fd__law_next : FuncData} (T : Blt mg) (D__law_names : DefAt K mg "_law_names" s_law_names ["_law_deck_here", "_law_points"] f fd) (XC : Xcs xfs K mg) (D__law_next : DefAt K mg "_law_next" s_law_next ["_law_deck_here"] f__law_next fd__law_next) (G__law_next : FnOk P w K mg base CX0 1 f__law_next fd__law_next ["_law_deck_here"] (sp__law_next K tb)) :
    FnOk P w K mg base CX0 2 f fd ["_law_deck_here", "_law_points"] (sp__law_names K tb) := by
  refine D__law_names.ok sc__law_names (fun vs H Q E h => by
    obtain ⟨p, n, rfl, hd, hn1, hn2, q⟩ := h
    all_goals rfl) fun A outer s H vs Q E hr h => ?_
  obtain ⟨p, n, rfl, hd, hn1, hn2, q⟩ := h
  refine ⟨_, pss_cons (ps_set (i := 2) sc__law_names.nd rfl (.inl rfl) (pe_listRg rfl (by rfl) T.b_list (prg_1 (by rfl) T.b_range (pv 1))))
     (pss_cons (ps_for PassesOwn.never rfl (pi_range1 (by rfl) T.b_range (pa_cons (pv 1) pa_nil)) (pg_name (i := 3) sc__law_names.nd rfl (.inl rfl))
     (pss_cons (ps_set (i := 4) sc__law_names.nd rfl (.inl rfl) (pe_op op_mod (pe_call G__law_next (hr.mono (by decide)) (by rfl) D__law_next.g D__law_next.F.kp D__law_next.b .nil pass0 (pa_cons (pv 0) pa_nil)) (pv 1)))
     (pss_one (ps_asg (pe_tup (pa_cons (pe_ix (ix_listK (K := K)) (pv 2) (pv 4) (fun _ _ => rfl)) (pa_cons (pe_ix (ix_listK (K := K)) (pv 2) (pv 3) (fun _ _ => rfl)) pa_nil))) (tgtK (K := K) (n := 2) (pgs_cons (pg_sub (pv 2) (pv 3) set_list) (pgs_cons (pg_sub (pv 2) (pv 4) set_list) pgs_nil)))))))
     (pss_one (ps_ret (pe_callTy (tupleF (K := K)) (by rfl) T.b_tuple (by decide +kernel) (pa_cons (pv 2) pa_nil))))), ?_⟩
  have LB := line_big
  refine ⟨_, rfl, _, rfl, ⟨by omega, by omega, by omega, by omega, by omega⟩, fun D nD => ?_⟩
  have nDp : D ≠ p := (hd.ne nD).symm
  rw [rgV_up]
  refine ⟨_, rfl, (n : Int), rfl, by omega, by omega, ?_⟩
  refine for_range (n := n) (fun i σ G => ∃ (y3 y4 : Option V) (ns : List Int), σ = [some (.ref p), some (.int (n : Int)), some (.ref D), y3, y4] ∧ Dk p H G ∧ G D = some (.lst (ns.map V.int)) ∧ PrmI ns n) ⟨none, none, upTo (n : Int), rfl, (Dk.refl hd).new nD, upd_same, .refl⟩ (fun i σ G hi hG => ?_) (fun σ G hG => ?_)
  · obtain ⟨y3, y4, ns, rfl, kG, gD, hN⟩ := hG
    have hnl := hN.len
    refine ⟨_, rfl, p, rfl, kG.d, fun r G1 r0 r1 k1 => ?_⟩
    have er := emod_bds r (n := (n : Int)) (by omega)
    have gD1 := k1.lst gD nDp
    refine ⟨_, rfl, _, _, rfl, rfl, by omega, ?_⟩
    obtain ⟨m, em⟩ : ∃ m : Nat, r % (n : Int) = (m : Int) := ⟨(r % (n : Int)).toNat, by omega⟩
    have e1 : ns[m]? = some ns[m] := List.getElem?_eq_getElem (by omega)
    have e2 : ns[i]? = some ns[i] := List.getElem?_eq_getElem (by omega)
    refine ⟨_, rfl, _, rfl, D, _, _, _, rfl, rfl, sqL_of gD1, (show atI (ns.map V.int) (r % (n : Int)) = some (.int ns[m]) by rw [em]; exact atI_nat (j := m) (by rw [List.getElem?_map, e1]; rfl)), ?_⟩
    refine ⟨_, rfl, _, rfl, D, _, _, _, rfl, rfl, sqL_of gD1, by rw [Int.zero_add]; exact atI_nat (j := i) (by rw [List.getElem?_map, e2]; rfl), ?_⟩
    refine ⟨by show 2 ≤ sizeLine; decide, fun t nt => ?_⟩
    have nt1 : t ≠ D := fun z => by rw [z, gD1] at nt; cases nt
    have gD2 := lst_new (o := .tup [.int ns[m], .int ns[i]]) nt gD1
    refine ⟨t, _, rfl, sqT_of upd_same, rfl, ?_⟩
    refine ⟨_, _, rfl, _, rfl, _, rfl, D, _, _, i, rfl, rfl, gD2, ?_, ?_⟩
    · rw [Int.zero_add, List.length_map]
      exact ix_nat (by omega)
    · refine ⟨_, _, rfl, _, rfl, _, rfl, D, _, _, m, rfl, rfl, upd_same, ?_, rfl, ?_⟩
      · rw [List.length_set, List.length_map]
        show ixN ns.length (r % (n : Int)) = _
        rw [em]
        exact ix_nat (by omega)
      · have ep : ((ns.map V.int).set i (V.int ns[m])).set m (V.int ns[i]) = ((ns.set i ns[m]).set m ns[i]).map V.int := by rw [List.map_set, List.map_set]
        rw [ep, upd_upd]
        exact ⟨_, _, (ns.set i ns[m]).set m ns[i], rfl, (((kG.trans k1).new nt).over hd nD), upd_same, (swap_perm ns e2 e1).trans hN⟩
  · obtain ⟨y3, y4, ns, rfl, kG, gD, hN⟩ := hG
    exact ⟨_, rfl, D, _, rfl, sqL_of gD, fun u o nu ho => q _ u ns (kG.new nu) (kG.k.dom _ nu) ⟨o, upd_same, ho⟩ hN⟩
theorem ok__law_order_of {P : Program} {w : World} {K : PySem.W.Frag} {mg : Str → Option Value} {base : Heap} {tb : List Addr} {f : Addr} {fd : FuncData} {f__law_next : Addr} {fd__law_next : FuncData} (T : Blt mg) (D__law_order_of : DefAt K mg "_law_order_of" s_law_order_of ["_law_deck_here", "_law_many"] f fd) (XC : Xcs xfs K mg) (D__law_next : DefAt K mg "_law_next" s_law_next ["_law_deck_here"] f__law_next fd__law_next) (G__law_next : FnOk P w K mg base CX0 1 f__law_next fd__law_next ["_law_deck_here"] (sp__law_next K tb)) :
    FnOk P w K mg base CX0 2 f fd ["_law_deck_here", "_law_many"] (sp__law_order_of K tb) := by
  refine D__law_order_of.ok sc__law_order_of (fun vs H Q E h => by
    obtain ⟨p, n, rfl, hd, hn2, q⟩ := h
    all_goals rfl) fun A outer s H vs Q E hr h => ?_
  obtain ⟨p, n, rfl, hd, hn2, q⟩ := h
  refine ⟨_, pss_cons (ps_set (i := 2) sc__law_order_of.nd rfl (.inl rfl) (pe_lst pa_nil))
     (pss_cons (ps_for PassesOwn.never rfl (pi_range1 (by rfl) T.b_range (pa_cons (pv 1) pa_nil)) (pg_name (i := 3) sc__law_order_of.nd rfl (.inl rfl))
     (pss_one (ps_expr (pe_bm PySem.F.plainAttrs_list PySem.F.slot_list_insert PySem.F.type_list_insert mt_insert (pv 2) (pa_cons (pe_op op_mod (pe_call G__law_next (hr.mono (by decide)) (by rfl) D__law_next.g D__law_next.F.kp D__law_next.b .nil pass0 (pa_cons (pv 0) pa_nil)) (pe_op op_add (pe_callB (lenK (K := K)) (by rfl) T.b_len PySem.boot_len (pa_cons (pv 2) pa_nil)) (pe_int))) (pa_cons (pv 3) pa_nil))))))
     (pss_one (ps_ret (pe_callTy (tupleF (K := K)) (by rfl) T.b_tuple (by decide +kernel) (pa_cons (pv 2) pa_nil))))), ?_⟩
  have LB := line_big
  refine ⟨by show 0 ≤ sizeLine; decide, fun D nD => ?_⟩
  have nDp : D ≠ p := (hd.ne nD).symm
  refine ⟨_, rfl, (n : Int), rfl, by omega, by omega, ?_⟩
  refine for_range (n := n) (fun i σ G => ∃ (y3 : Option V) (ns : List Int), σ = [some (.ref p), some (.int (n : Int)), some (.ref D), y3] ∧ Dk p H G ∧ G D = some (.lst (ns.map V.int)) ∧ PrmI ns i) ⟨none, [], rfl, (Dk.refl hd).new nD, upd_same, (PrmI.refl (n := 0))⟩ (fun i σ G hi hG => ?_) (fun σ G hG => ?_)
  · obtain ⟨y3, ns, rfl, kG, gD, hN⟩ := hG
    have hnl := hN.len
    refine ⟨_, rfl, .inl ⟨rfl, _, sqL_of gD⟩, ?_⟩
    refine ⟨_, rfl, p, rfl, kG.d, fun r G1 r0 r1 k1 => ?_⟩
    have gD1 := k1.lst gD nDp
    refine ⟨_, rfl, D, _, rfl, .inl (sqL_of gD1), _, _, rfl, rfl, _, _, rfl, rfl, by rw [List.length_map]; omega, ?_⟩
    have er := emod_bds r (n := ((ns.map V.int).length : Int) + 1) (by omega)
    have hml : (ns.map V.int).length = ns.length := List.length_map ..
    refine ⟨_, rfl, D, _, _, _, rfl, rfl, gD1, by omega, er.1, by omega, ?_⟩
    have ep : (ns.map V.int).take (r % (((ns.map V.int).length : Int) + 1)).toNat ++ [V.int (0 + (i : Int))] ++ (ns.map V.int).drop (r % (((ns.map V.int).length : Int) + 1)).toNat = (ns.take (r % (((ns.map V.int).length : Int) + 1)).toNat ++ [(i : Int)] ++ ns.drop (r % (((ns.map V.int).length : Int) + 1)).toNat).map V.int := by
      rw [List.map_append, List.map_append, List.map_take, List.map_drop, Int.zero_add]
      rfl
    rw [ep]
    refine ⟨_, _, rfl, (kG.trans k1).over hd nD, upd_same, ?_⟩
    show List.Perm _ (upTo ((i + 1 : Nat) : Int))
    rw [show ((i + 1 : Nat) : Int) = (i : Int) + 1 by omega, upTo_succ (by omega)]
    exact (ins_perm ns _ _).trans (List.Perm.append_right _ hN)
  · obtain ⟨y3, ns, rfl, kG, gD, hN⟩ := hG
    exact ⟨_, rfl, D, _, rfl, sqL_of gD, fun u o nu ho => q _ u ns (kG.new nu) (kG.k.dom _ nu) ⟨o, upd_same, ho⟩ hN⟩
theorem ok__law_renamed {P : Program} {w : World} {K : PySem.W.Frag} {mg : Str → Option Value} {base : Heap} {tb : List Addr} {f : Addr} {fd : FuncData} (T : Blt mg) (D__law_renamed : DefAt K mg "_law_renamed" s_law_renamed ["_law_web_here", "_law_names_here", "_law_order"] f fd) (XC : Xcs xfs K mg) :
    FnOk P w K mg base CX0 1 f fd ["_law_web_here", "_law_names_here", "_law_order"] (sp__law_renamed K tb) := by
  refine D__law_renamed.ok sc__law_renamed (fun vs H Q E h => by
    obtain ⟨v, n, ts, a, ns, b, ord, rfl, W, hok, hn1, hn2, hlen, hns, hN, hord, hO, q⟩ := h
    all_goals rfl) fun A outer s H vs Q E hr h => ?_
  obtain ⟨v, n, ts, a, ns, b, ord, rfl, W, hok, hn1, hn2, hlen, hns, hN, hord, hO, q⟩ := h
  refine ⟨_, pss_cons (ps_setLc (i := 4) (own := [("_law_tie_here", 3)]) rfl sc__law_renamed.nd rfl rfl (sw_true rfl rfl rfl (by decide +kernel)) (pi_tup (pv 2)) (blkOk_by (own := [("_law_tie_here", 3)]) (N := nm__law_renamed) (sc := defScope s_law_renamed) (by decide +kernel)) (fun _ _ _ _ _ => pg_name (i := 3) sc__law_renamed.nd rfl (.inl rfl)) (fun _ _ _ _ _ => pts_nil) (fun _ _ _ _ _ => pe_tup (pa_cons (pe_ix (ix_tupK (K := K)) (pv 1) (pe_ix (ix_tupK (K := K)) (pe_ix (ix_tupK (K := K)) (pe_ix (ix_tupK (K := K)) (pv 0) (pe_int) (fun _ _ => rfl)) (pv 3) (fun _ _ => rfl)) (pe_int) (fun _ _ => rfl)) (fun _ _ => rfl)) (pa_cons (pe_ix (ix_tupK (K := K)) (pv 1) (pe_ix (ix_tupK (K := K)) (pe_ix (ix_tupK (K := K)) (pe_ix (ix_tupK (K := K)) (pv 0) (pe_int) (fun _ _ => rfl)) (pv 3) (fun _ _ => rfl)) (pe_int) (fun _ _ => rfl)) (fun _ _ => rfl)) pa_nil))))
     (pss_one (ps_ret (pe_tup (pa_cons (pe_ix (ix_tupK (K := K)) (pv 0) (pe_int) (fun _ _ => rfl)) (pa_cons (pe_callTy (tupleK (K := K)) (by rfl) T.b_tuple (by decide +kernel) (pa_cons (pe_lc (own := [("_law_tie_here", 3)]) rfl sc__law_renamed.nd (pi_list (pv 4)) (blkOk_by (own := [("_law_tie_here", 3)]) (N := nm__law_renamed) (sc := defScope s_law_renamed) (by decide +kernel)) (fun _ _ _ _ _ => pg_name (i := 3) sc__law_renamed.nd rfl (.inl rfl)) (fun _ _ _ _ _ => pts_nil) (fun _ _ _ _ _ => pe_tup (pa_cons (pe_callB (minT (K := K) rfl hr.units) (by rfl) T.b_min (by decide +kernel) (pa_cons (pv 3) pa_nil)) (pa_cons (pe_callB (maxT (K := K) rfl hr.units) (by rfl) T.b_max (by decide +kernel) (pa_cons (pv 3) pa_nil)) pa_nil)))) pa_nil)) pa_nil))))), ?_⟩
  have LB := line_big
  have hol := hO.len
  obtain ⟨t, u, rs, rfl, ht, hu, hT⟩ := id W
  have hrl := hT.length
  refine ⟨_, rfl, b, rfl, ⟨_, hord⟩, fun D nD => ?_⟩
  refine lc_tup (K := K) (a := b) (xs := ord.map V.int) (fun i G => ∃ xs, Ke H G ∧ G D = some (.lst xs) ∧ Ties G xs ((ord.take i).map fun m => (nmF ns (tieAt ts m).1, nmF ns (tieAt ts m).2))) ⟨[], Ke.new nD, upd_same, .nil⟩ (fun i G _ hG => ?_) (fun i x G hx hG => ?_) (fun G hG => ?_)
  · obtain ⟨_, kG, _⟩ := hG
    exact sqT_ke hord kG
  · obtain ⟨xs, kG, gD, hX⟩ := hG
    obtain ⟨m, hm, rfl⟩ := int_at hx
    obtain ⟨m0, m1⟩ := hO.mem.mp (List.mem_of_getElem? hm)
    have il := (List.getElem?_eq_some_iff.mp hx).1
    rw [List.length_map] at il
    have hxl := hX.length
    rw [List.length_map, List.length_take] at hxl
    obtain ⟨et, hmem⟩ := tieAt_in m0 m1
    obtain ⟨t0, t1, t2⟩ := hok _ hmem
    obtain ⟨q', eat, hq⟩ := hT.at_ m0 m1
    have hqG := Ke.tup kG hq
    have huG := Ke.tup kG hu
    have htG := Ke.tup kG ht
    have hnG := sqT_ke hns kG
    refine ⟨rfl, yes_ite ?_⟩
    refine ⟨_, rfl, _, rfl, t, _, 1, _, rfl, rfl, sqT_of htG, atI_nat (j := 1) rfl, _, rfl, u, _, _, _, rfl, rfl, sqT_of huG, eat, q', _, 0, _, rfl, rfl, sqT_of hqG, atI_nat (j := 0) rfl, a, _, _, _, rfl, rfl, hnG, hN.at_ (x := (tieAt ts m).1) t0 (by omega), ?_⟩
    refine ⟨_, rfl, _, rfl, t, _, 1, _, rfl, rfl, sqT_of htG, atI_nat (j := 1) rfl, _, rfl, u, _, _, _, rfl, rfl, sqT_of huG, eat, q', _, 1, _, rfl, rfl, sqT_of hqG, atI_nat (j := 1) rfl, a, _, _, _, rfl, rfl, hnG, hN.at_ (x := (tieAt ts m).2) (by omega) t2, ?_⟩
    refine ⟨by show 2 ≤ sizeLine; decide, fun z nz => ?_⟩
    have gD2 := lst_new (o := .tup [.int (nmF ns (tieAt ts m).1), .int (nmF ns (tieAt ts m).2)]) nz gD
    refine ⟨xs, gD2, by omega, _, (kG.trans (Ke.new nz)).over nD, upd_same, ?_⟩
    rw [take_next hm, List.map_append]
    exact ((hX.new nz).append (Ties.one upd_same)).put gD2
  · obtain ⟨xs, kG, gD, hX⟩ := hG
    rw [List.length_map, List.take_length] at hX
    have hxl := hX.length
    rw [List.length_map] at hxl
    have htG := Ke.tup kG ht
    refine ⟨_, rfl, t, _, 0, _, rfl, rfl, sqT_of htG, atI_nat (j := 0) rfl, ?_⟩
    refine ⟨_, rfl, D, rfl, ⟨_, sqL_of gD⟩, fun D2 nD2 => ?_⟩
    have nDD : D2 ≠ D := fun z => by rw [z, gD] at nD2; cases nD2
    refine lc_list (K := K) (a := D) (xs := xs) (fun i G' => ∃ ys, Ke G G' ∧ G' D2 = some (.lst ys) ∧ Ties G' ys ((renF ns ts ord).take i)) ⟨[], Ke.new nD2, upd_same, .nil⟩ (fun i G' _ hG' => ?_) (fun i x G' hx hG' => ?_) (fun G' hG' => ?_)
    · obtain ⟨_, kG', _⟩ := hG'
      exact sqL_of (Ke.lst kG' gD)
    · obtain ⟨ys, kG', gD', hY⟩ := hG'
      obtain ⟨e, q', he, rfl, hq⟩ := hX.get hx
      rw [List.getElem?_map] at he
      obtain ⟨m, hm, rfl⟩ := Option.map_eq_some_iff.mp he
      obtain ⟨m0, m1⟩ := hO.mem.mp (List.mem_of_getElem? hm)
      obtain ⟨et, hmem⟩ := tieAt_in m0 m1
      obtain ⟨t0, t1, t2⟩ := hok _ hmem
      have hqG := Ke.tup kG' hq
      refine ⟨rfl, yes_ite ?_⟩
      refine ⟨_, rfl, q', [nmF ns (tieAt ts m).1, nmF ns (tieAt ts m).2], rfl, sqT_of hqG, by show 0 < 2; decide, fun x1 hx1 hle => ?_⟩
      have e1 : x1 = (mvT (nmF ns) (tieAt ts m)).1 := by
        have l1 := hle _ List.mem_cons_self
        have l2 := hle _ (List.mem_cons_of_mem _ List.mem_cons_self)
        show x1 = if nmF ns (tieAt ts m).2 < nmF ns (tieAt ts m).1 then nmF ns (tieAt ts m).2 else nmF ns (tieAt ts m).1
        rcases List.mem_cons.mp hx1 with rfl | hx1
        · rw [if_neg (by omega)]
        · rw [List.mem_singleton.mp hx1] at l1 ⊢
          by_cases c : nmF ns (tieAt ts m).2 < nmF ns (tieAt ts m).1
          · rw [if_pos c]
          · rw [if_neg c]
            omega
      subst e1
      refine ⟨_, rfl, q', [nmF ns (tieAt ts m).1, nmF ns (tieAt ts m).2], rfl, sqT_of hqG, by show 0 < 2; decide, fun x2 hx2 hge => ?_⟩
      have e2 : x2 = (mvT (nmF ns) (tieAt ts m)).2 := by
        have l1 := hge _ List.mem_cons_self
        have l2 := hge _ (List.mem_cons_of_mem _ List.mem_cons_self)
        show x2 = if nmF ns (tieAt ts m).2 > nmF ns (tieAt ts m).1 then nmF ns (tieAt ts m).2 else nmF ns (tieAt ts m).1
        rcases List.mem_cons.mp hx2 with rfl | hx2
        · rw [if_neg (by omega)]
        · rw [List.mem_singleton.mp hx2] at l1 ⊢
          by_cases c : nmF ns (tieAt ts m).2 > nmF ns (tieAt ts m).1
          · rw [if_pos c]
          · rw [if_neg c]
            omega
      subst e2
      have er : (renF ns ts ord)[i]? = some (mvT (nmF ns) (tieAt ts m)) := by
        unfold renF
        rw [List.getElem?_map, hm]
        rfl
      have hyl := hY.length
      rw [List.length_take] at hyl
      have hll : (renF ns ts ord).length = ord.length := ren_len
      refine ⟨by show 2 ≤ sizeLine; decide, fun z nz => ?_⟩
      have gD2 := lst_new (o := .tup [.int (mvT (nmF ns) (tieAt ts m)).1, .int (mvT (nmF ns) (tieAt ts m)).2]) nz gD'
      refine ⟨ys, gD2, by omega, _, (kG'.trans (Ke.new nz)).over nD2, upd_same, ?_⟩
      rw [take_next er]
      exact ((hY.new nz).append (Ties.one upd_same)).put gD2
    · obtain ⟨ys, kG', gD', hY⟩ := hG'
      have hll : (renF ns ts ord).length = ord.length := ren_len
      rw [show xs.length = (renF ns ts ord).length by omega, List.take_length] at hY
      refine ⟨D2, ys, rfl, .inl ⟨sqL_of gD', fun z nz => ?_⟩⟩
      refine ⟨by show 2 ≤ sizeLine; decide, fun w nw => ?_⟩
      have k3 := (Ke.new (S := fun _ => False) (o := .tup ys) nz)
      have k4 := (Ke.new (S := fun _ => False) (o := .tup [.int (n : Int), .ref z]) nw)
      exact q _ _ (((kG.trans kG').trans k3).trans k4) ⟨w, z, ys, rfl, upd_same, tup_new nw upd_same, (hY.new nz).new nw⟩
theorem ok__law_back {P : Program} {w : World} {K : PySem.W.Frag} {mg : Str → Option Value} {base : Heap} {tb : List Addr} {f : Addr} {fd : FuncData} (T : Blt mg) (D__law_back : DefAt K mg "_law_back" s_law_back ["_law_row"] f fd) (XC : Xcs xfs K mg) :
    FnOk P w K mg base CX0 1 f fd ["_law_row"] (sp__law_back K tb) := by
  refine D__law_back.ok sc__law_back (fun vs H Q E h => by
    obtain ⟨a, ns, n, rfl, hns, hN, hn, q⟩ := h
    all_goals rfl) fun A outer s H vs Q E hr h => ?_
  obtain ⟨a, ns, n, rfl, hns, hN, hn, q⟩ := h
  refine ⟨_, pss_one (ps_ret (pe_callTy (tupleK (K := K)) (by rfl) T.b_tuple (by decide +kernel) (pa_cons (pe_lc (own := [("_law_j", 1)]) rfl sc__law_back.nd (pi_range1 (by rfl) T.b_range (pa_cons (pe_callB (lenK (K := K)) (by rfl) T.b_len PySem.boot_len (pa_cons (pv 0) pa_nil)) pa_nil)) (blkOk_by (own := [("_law_j", 1)]) (N := nm__law_back) (sc := defScope s_law_back) (by decide +kernel)) (fun _ _ _ _ _ => pg_name (i := 1) sc__law_back.nd rfl (.inl rfl)) (fun _ _ _ _ _ => pts_nil) (fun _ _ _ _ _ => pe_bmF PySem.F.slot_tuple_index PySem.F.type_tuple_index (mt_tindex (K := K)) (pv 0) (pa_cons (pv 1) pa_nil))) pa_nil))), ?_⟩
  have LB := line_big
  have hnl := hN.len
  refine ⟨_, rfl, a, _, rfl, .inr hns.sq, _, rfl, by rw [List.length_map]; omega, by rw [List.length_map]; omega, fun D nD => ?_⟩
  refine lc_range (lo := 0) (n := (ns.map V.int).length) (fun j G => Ke H G ∧ G D = some (.lst (((backI ns n).take j).map V.int))) ⟨Ke.new nD, upd_same⟩ (fun j G hj hG => ?_) (fun G hG => ?_)
  · obtain ⟨kG, gD⟩ := hG
    rw [List.length_map] at hj
    have hm : (j : Int) ∈ ns := hN.mem.mpr ⟨by omega, by omega⟩
    have e : (backI ns n)[j]? = some (firstAt ns (j : Int) : Int) := by
      unfold backI
      rw [List.getElem?_map, upTo_get' (by omega)]
      rfl
    have hbl : (backI ns n).length = n := (back_prm hN).len
    have hTk := TF.ke hns kG
    refine ⟨rfl, yes_ite ?_⟩
    refine ⟨_, rfl, ⟨a, _, rfl, hTk⟩, _, rfl, a, ns, _, firstAt ns (j : Int), rfl, rfl, hTk.sq, ?_, ?_, ?_⟩
    · rw [Int.zero_add]
      exact firstAt_get hm
    · intro m hm2
      rw [Int.zero_add]
      exact fun z => firstAt_ahead hm2 z rfl
    · refine ⟨_, gD, by rw [List.length_map, List.length_take]; omega, kG.over nD, ?_⟩
      rw [upd_same, take_next e, List.map_append]
      rfl
  · obtain ⟨kG, gD⟩ := hG
    have hbl : (backI ns n).length = n := (back_prm hN).len
    rw [List.take_of_length_le (by rw [List.length_map]; omega)] at gD
    refine ⟨D, _, rfl, .inl ⟨sqL_of gD, fun z nz => ?_⟩⟩
    exact q _ z (kG.trans (Ke.new nz)) (kG.dom _ nz) upd_same
theorem ok__law_good {P : Program} {w : World} {K : PySem.W.Frag} {mg : Str → Option Value} {base : Heap} {tb : List Addr} {f : Addr} {fd : FuncData} {f_check : Addr} {fd_check : FuncData} {f_renamed_web : Addr} {fd_renamed_web : FuncData} {f__law_names : Addr} {fd__law_names : FuncData} {f__law_order_of : Addr} {fd__law_order_of : FuncData} {f__law_renamed : Addr} {fd__law_renamed : FuncData} {f__law_back : Addr} {fd__law_back : FuncData} (T : Blt mg) (D__law_good : DefAt K mg "_law_good" s_law_good ["_law_deck_here", "_law_web_here"] f fd) (XC : Xcs xfs K mg) (D_check : DefAt K mg "check" s_check ["thing"] f_check fd_check) (G_check : FnOk P w K mg base (L2.CX P w) 6 f_check fd_check ["thing"] (sp_check K tb)) (D_renamed_web : DefAt K mg "renamed_web" s_renamed_web ["web", "names", "order"] f_renamed_web fd_renamed_web) (G_renamed_web : FnOk P w K mg base CX0 8 f_renamed_web fd_renamed_web ["web", "names", "order"] (sp_renamed_web K tb)) (D__law_names : DefAt K mg "_law_names" s_law_names ["_law_deck_here", "_law_points"] f__law_names fd__law_names) (G__law_names : FnOk P w K mg base CX0 2 f__law_names fd__law_names ["_law_deck_here", "_law_points"] (sp__law_names K tb)) (D__law_order_of : DefAt K mg "_law_order_of" s_law_order_of ["_law_deck_here", "_law_many"] f__law_order_of fd__law_order_of) (G__law_order_of : FnOk P w K mg base CX0 2 f__law_order_of fd__law_order_of ["_law_deck_here", "_law_many"] (sp__law_order_of K tb)) (D__law_renamed : DefAt K mg "_law_renamed" s_law_renamed ["_law_web_here", "_law_names_here", "_law_order"] f__law_renamed fd__law_renamed) (G__law_renamed : FnOk P w K mg base CX0 1 f__law_renamed fd__law_renamed ["_law_web_here", "_law_names_here", "_law_order"] (sp__law_renamed K tb)) (D__law_back : DefAt K mg "_law_back" s_law_back ["_law_row"] f__law_back fd__law_back) (G__law_back : FnOk P w K mg base CX0 1 f__law_back fd__law_back ["_law_row"] (sp__law_back K tb)) :
    FnOkG P w K mg base CX0 9 f fd ["_law_deck_here", "_law_web_here"] (sp__law_good K tb) := by
  refine D__law_good.okG sc__law_good (fun vs H Q E h => by
    obtain ⟨p, v, n, ts, rfl, hd, W, hok, hn1, hn2, hlen, hT0, q⟩ := h
    all_goals rfl) fun A outer s H vs Q E hgd hr h => ?_
  obtain ⟨p, v, n, ts, rfl, hd, W, hok, hn1, hn2, hlen, hT0, q⟩ := h
  refine ⟨_, pss_cons (ps_set (i := 2) sc__law_good.nd rfl (.inr rfl) (pe_call G__law_names (hr.mono (by decide)) (by rfl) D__law_names.g D__law_names.F.kp D__law_names.b .nil pass0 (pa_cons (pv 0) (pa_cons (pe_ix (ix_tupK (K := K)) (pv 1) (pe_int) (fun _ _ => rfl)) pa_nil))))
     (pss_cons (ps_set (i := 3) sc__law_good.nd rfl (.inr rfl) (pe_call G__law_order_of (hr.mono (by decide)) (by rfl) D__law_order_of.g D__law_order_of.F.kp D__law_order_of.b .nil pass0 (pa_cons (pv 0) (pa_cons (pe_callB (lenK (K := K)) (by rfl) T.b_len PySem.boot_len (pa_cons (pe_ix (ix_tupK (K := K)) (pv 1) (pe_int) (fun _ _ => rfl)) pa_nil)) pa_nil))))
     (pss_cons (ps_set (i := 4) sc__law_good.nd rfl (.inl rfl) (pe_callTy (cr_strD (K := K) hgd hr.units) (by rfl) T.b_str (by decide +kernel) (pa_cons (pe_lst (pa_cons (pv 1) (pa_cons (pv 2) (pa_cons (pv 3) pa_nil)))) pa_nil)))
     (pss_cons (ps_set (i := 5) sc__law_good.nd rfl (.inl rfl) (pe_call G_renamed_web (hr.mono (by decide)) (by rfl) D_renamed_web.g D_renamed_web.F.kp D_renamed_web.b .nil pass0 (pa_cons (pv 1) (pa_cons (pv 2) (pa_cons (pv 3) pa_nil)))))
     (pss_cons (ps_if (PW.pt (pw_or (pt_cmpR (neDK (K := K) hr.units) (pv 5) (pe_call G__law_renamed (hr.mono (by decide)) (by rfl) D__law_renamed.g D__law_renamed.F.kp D__law_renamed.b .nil pass0 (pa_cons (pv 1) (pa_cons (pv 2) (pa_cons (pv 3) pa_nil)))) (nomark _)) (pw_or1 (pt_cmpR op_notBl (pe_call G_check (hr.mono (by decide)) (by rfl) D_check.g D_check.F.kp D_check.b .nil (passes_call (E := fun _ _ _ => False) takesN fun _ _ _ _ h => h) (pa_cons (pv 5) pa_nil)) (pe_bl) (nomark _)))))
     (pss_one (ps_ret (pe_bl)))
     (pss_nil))
     (pss_cons (ps_if (pt_cmpR (neDK (K := K) hr.units) (pe_call G_renamed_web (hr.mono (by decide)) (by rfl) D_renamed_web.g D_renamed_web.F.kp D_renamed_web.b .nil pass0 (pa_cons (pv 5) (pa_cons (pe_call G__law_back (hr.mono (by decide)) (by rfl) D__law_back.g D__law_back.F.kp D__law_back.b .nil pass0 (pa_cons (pv 2) pa_nil)) (pa_cons (pe_call G__law_back (hr.mono (by decide)) (by rfl) D__law_back.g D__law_back.F.kp D__law_back.b .nil pass0 (pa_cons (pv 3) pa_nil)) pa_nil)))) (pv 1) (nomark _))
     (pss_one (ps_ret (pe_bl)))
     (pss_nil))
     (pss_cons (ps_set (i := 6) sc__law_good.nd rfl (.inr rfl) (pe_call G__law_names (hr.mono (by decide)) (by rfl) D__law_names.g D__law_names.F.kp D__law_names.b .nil pass0 (pa_cons (pv 0) (pa_cons (pe_ix (ix_tupK (K := K)) (pv 1) (pe_int) (fun _ _ => rfl)) pa_nil))))
     (pss_cons (ps_set (i := 7) sc__law_good.nd rfl (.inl rfl) (pe_call G__law_order_of (hr.mono (by decide)) (by rfl) D__law_order_of.g D__law_order_of.F.kp D__law_order_of.b .nil pass0 (pa_cons (pv 0) (pa_cons (pe_callB (lenK (K := K)) (by rfl) T.b_len PySem.boot_len (pa_cons (pe_ix (ix_tupK (K := K)) (pv 1) (pe_int) (fun _ _ => rfl)) pa_nil)) pa_nil))))
     (pss_cons (ps_set (i := 10) sc__law_good.nd rfl (.inl rfl) (pe_tup (pa_cons (pe_callTy (tupleK (K := K)) (by rfl) T.b_tuple (by decide +kernel) (pa_cons (pe_lc (own := [("_law_j", 8)]) rfl sc__law_good.nd (pi_range1 (by rfl) T.b_range (pa_cons (pe_ix (ix_tupK (K := K)) (pv 1) (pe_int) (fun _ _ => rfl)) pa_nil)) (blkOk_by (own := [("_law_j", 8)]) (N := nm__law_good) (sc := defScope s_law_good) (by decide +kernel)) (fun _ _ _ _ _ => pg_name (i := 8) sc__law_good.nd rfl (.inl rfl)) (fun _ _ _ _ _ => pts_nil) (fun _ _ _ _ _ => pe_ix (ix_tupK (K := K)) (pv 6) (pe_ix (ix_tupK (K := K)) (pv 2) (pv 8) (fun _ _ => rfl)) (fun _ _ => rfl))) pa_nil)) (pa_cons (pe_callTy (tupleK (K := K)) (by rfl) T.b_tuple (by decide +kernel) (pa_cons (pe_lc (own := [("_law_tie_here", 9)]) rfl sc__law_good.nd (pi_tup (pv 7)) (blkOk_by (own := [("_law_tie_here", 9)]) (N := nm__law_good) (sc := defScope s_law_good) (by decide +kernel)) (fun _ _ _ _ _ => pg_name (i := 9) sc__law_good.nd rfl (.inl rfl)) (fun _ _ _ _ _ => pts_nil) (fun _ _ _ _ _ => pe_ix (ix_tupK (K := K)) (pv 3) (pv 9) (fun _ _ => rfl))) pa_nil)) pa_nil))))
     (pss_cons (ps_if (pt_cmpR (neDK (K := K) hr.units) (pe_call G_renamed_web (hr.mono (by decide)) (by rfl) D_renamed_web.g D_renamed_web.F.kp D_renamed_web.b .nil pass0 (pa_cons (pv 5) (pa_cons (pv 6) (pa_cons (pv 7) pa_nil)))) (pe_call G_renamed_web (hr.mono (by decide)) (by rfl) D_renamed_web.g D_renamed_web.F.kp D_renamed_web.b .nil pass0 (pa_cons (pv 1) (pa_cons (pe_ix (ix_tupK (K := K)) (pv 10) (pe_int) (fun _ _ => rfl)) (pa_cons (pe_ix (ix_tupK (K := K)) (pv 10) (pe_int) (fun _ _ => rfl)) pa_nil)))) (nomark _))
     (pss_one (ps_ret (pe_bl)))
     (pss_nil))
     (pss_cons (ps_set (i := 11) sc__law_good.nd rfl (.inl rfl) (pe_call G_renamed_web (hr.mono (by decide)) (by rfl) D_renamed_web.g D_renamed_web.F.kp D_renamed_web.b .nil pass0 (pa_cons (pv 1) (pa_cons (pe_tupRg rfl (by rfl) T.b_tuple (prg_1 (by rfl) T.b_range (pe_ix (ix_tupK (K := K)) (pv 1) (pe_int) (fun _ _ => rfl)))) (pa_cons (pe_tupRg rfl (by rfl) T.b_tuple (prg_1 (by rfl) T.b_range (pe_callB (lenK (K := K)) (by rfl) T.b_len PySem.boot_len (pa_cons (pe_ix (ix_tupK (K := K)) (pv 1) (pe_int) (fun _ _ => rfl)) pa_nil)))) pa_nil)))))
     (pss_one (ps_ret (pe_and (pe_cmpR (eqDK (K := K) hr.units) (pv 11) (pv 1) (nomark _)) (pe_one (pe_cmpR op_eq (pe_callTy (cr_strD (K := K) hgd hr.units) (by rfl) T.b_str (by decide +kernel) (pa_cons (pe_lst (pa_cons (pv 1) (pa_cons (pv 2) (pa_cons (pv 3) pa_nil)))) pa_nil)) (pv 4) (nomark _)))))))))))))))), ?_⟩
  have LB := line_big
  obtain ⟨t, u, rs, rfl, ht, hu, hT⟩ := id W
  have hrl := hT.length
  refine ⟨_, rfl, _, rfl, t, _, 0, _, rfl, rfl, sqT_of ht, atI_nat (j := 0) rfl, p, n, rfl, hd, hn1, hn2, fun H1 na ns k1 nna hns hN => ?_⟩
  have W1 := W.dk k1 hd
  have ht1 := k1.tup hd ht
  have hu1 := k1.tup hd hu
  have hT1 := hT0.dk k1
  refine ⟨_, rfl, _, rfl, t, _, 1, _, rfl, rfl, sqT_of ht1, atI_nat (j := 1) rfl, u, _, rfl, .inr (sqT_of hu1), p, ts.length, by rw [hrl]; rfl, k1.d, hlen, fun H2 oa ord k2 noa hoa hO => ?_⟩
  have W2 := W1.dk k2 k1.d
  have hns2 := hns.dk k2 k1.d
  have hT2 := hT1.dk k2
  have hnl := hN.len
  have hol := hO.len
  have d2 := k2.d
  refine ⟨_, rfl, _, rfl, _, rfl, by show 3 ≤ sizeLine; decide, fun s ns0 => ?_⟩
  have ks := Ke.new (S := fun _ => False) (o := .lst [.ref t, .ref na, .ref oa]) ns0
  have gs : (upd H2 s (.lst [.ref t, .ref na, .ref oa])) s = some (.lst [.ref t, .ref na, .ref oa]) := upd_same
  have W3 := W2.ke ks
  have hns3 := hns2.ke ks
  have hoa3 := hoa.ke ks
  have hT3 := hT2.kx ks
  have k3 : Dk p H (upd H2 s (.lst [.ref t, .ref na, .ref oa])) := (k1.trans k2).ke ks
  have bn : ∀ x ∈ ns, 0 ≤ x ∧ x ≤ 1000000000 := fun x hx => by have := hN.mem.mp hx; omega
  have bo : ∀ x ∈ ord, 0 ≤ x ∧ x ≤ 1000000000 := fun x hx => by have := hO.mem.mp hx; omega
  have shw : ShS 4 (3 * ts.length + ns.length + ord.length + 6) (.list [dWeb (n : Int) ts, .tuple (ns.map PyData.int), .tuple (ord.map PyData.int)]) := by
    have := (ShA.cons (shS_web (n := (n : Int)) (by omega) (by omega) hok) (ShA.cons ((shS_ints bn).up (by decide) (Nat.le_refl _)) (ShA.cons ((shS_ints bo).up (by decide) (Nat.le_refl _)) (shA_nil (e := 3))))).lst
    exact this.up (Nat.le_refl _) (by omega)
  refine ⟨s, _, rfl, .lst (sqL_of gs) (.cons W3.dp (.cons (.tup hns3.sq (dp_ints ns)) (.cons (.tup hoa3.sq (dp_ints ord)) .nil))), shw.sh, shw.hd, by have := shw.dp; omega, shw.fits (by omega), ?_⟩
  generalize upd H2 s _ = H3 at *
  refine ⟨_, rfl, _, rfl, _, rfl, .ref t, n, ts, na, ns, oa, ord, rfl, W3, hok, hn1, hn2, hlen, hns3.sq, hN, hoa3.sq, hO, hT3, fun H4 v4 k4 W4 => ?_⟩
  have W34 := W3.ke k4
  have hns4 := hns3.ke k4
  have hoa4 := hoa3.ke k4
  have hT4 := hT3.kx k4
  refine ⟨_, rfl, _, rfl, _, rfl, _, rfl, .ref t, n, ts, na, ns, oa, ord, rfl, W34, hok, hn1, hn2, hlen, hns4.sq, hN, hoa4.sq, hO, fun H5 v5 k5 W5 => ?_⟩
  have W45 := W4.ke k5
  refine ⟨_, _, W45.dp, W5.dp, (dWeb_sh _ _).shaped, (dWeb_sh _ _).shaped, ?_⟩
  rw [SeqAt.eqv_refl _ (SeqAt.canLay_of_shaped (dWeb_sh _ _).shaped)]
  refine ⟨_, rfl, (if_neg Bool.false_ne_true).mpr ?_⟩
  have okr := ren_ok hok hN hO
  have rl : (renF ns ts ord).length = ts.length := by rw [ren_len, hol]
  refine ⟨_, rfl, v4, true, rfl, W45.wt okr (by omega) (by omega) (by omega), hT4.kx k5, fun _ H6 k6 => ?_, fun z => nomatch z⟩
  have k46 := k5.trans k6
  have W6 := W4.ke k46
  have Wt6 := W34.ke k46
  have hns6 := hns4.ke k46
  have hoa6 := hoa4.ke k46
  have hT6 := hT4.kx k46
  have gs6 := Ke.lst (k4.trans k46) gs
  have kd6 : Dk p H H6 := k3.ke (k4.trans k46)
  refine ⟨true, true, rfl, rfl, _, rfl, iteF ?_⟩
  refine ⟨_, rfl, _, rfl, na, ns, n, rfl, hns6, hN, by omega, fun H7 u1 k7 nu1 hu1 => ?_⟩
  refine ⟨_, rfl, oa, ord, ts.length, rfl, hoa6.ke k7, hO, hlen, fun H8 u2 k8 nu2 hu2 => ?_⟩
  have k78 := k7.trans k8
  refine ⟨v4, n, renF ns ts ord, u1, backI ns n, u2, backI ord ts.length, rfl, W6.ke k78, okr, hn1, hn2, by omega, sqT_of (Ke.tup k8 hu1), back_prm hN, sqT_of hu2, by rw [rl]; exact back_prm hO, hT6.kx k78, fun H9 v9 k9 W9 => ?_⟩
  rw [ren_back hok hN hO] at W9
  have k79 := k78.trans k9
  refine ⟨_, rfl, _, _, W9.dp, (Wt6.ke k79).dp, (dWeb_sh _ _).shaped, (dWeb_sh _ _).shaped, ?_⟩
  rw [SeqAt.eqv_refl _ (SeqAt.canLay_of_shaped (dWeb_sh _ _).shaped)]
  refine ⟨_, rfl, iteF ?_⟩
  have kd9 := kd6.ke k79
  have d9 := kd9.d
  have Wt9 := Wt6.ke k79
  have ht9 := kd9.tup hd ht
  have hu9 := kd9.tup hd hu
  refine ⟨_, rfl, _, rfl, t, _, 0, _, rfl, rfl, sqT_of ht9, atI_nat (j := 0) rfl, p, n, rfl, d9, hn1, hn2, fun HA ma ms kA nma hms hM => ?_⟩
  have htA := kA.tup d9 ht9
  have huA := kA.tup d9 hu9
  refine ⟨_, rfl, _, rfl, t, _, 1, _, rfl, rfl, sqT_of htA, atI_nat (j := 1) rfl, u, _, rfl, .inr (sqT_of huA), p, ts.length, by rw [hrl]; rfl, kA.d, hlen, fun HB ra row kB nra hra hR => ?_⟩
  have kAB := kA.trans kB
  have nsp : s ≠ p := (k2.d.ne ns0).symm
  have kdB := kd9.trans kAB
  have WB := Wt9.dk kAB d9
  have WoB := (W6.ke k79).dk kAB d9
  have hnsB := (hns6.ke k79).dk kAB d9
  have hoaB := (hoa6.ke k79).dk kAB d9
  have hmsB := hms.dk kB kA.d
  have htB := kB.tup kA.d htA
  have huB := kB.tup kA.d huA
  have hTB2 := (hT6.kx k79).dk kAB
  have gsB := kAB.lst (Ke.lst k79 gs6) nsp
  have hrow := hR.len
  have hmsl := hM.len
  refine ⟨_, rfl, t, _, 0, _, rfl, rfl, sqT_of htB, atI_nat (j := 0) rfl, _, rfl, by omega, by omega, fun D nD => ?_⟩
  refine lc_range (lo := 0) (n := n) (fun i G => Ke HB G ∧ G D = some (.lst (((overI ms ns).take i).map V.int))) ⟨Ke.new nD, upd_same⟩ (fun i G hi hG => ?_) (fun G hG => ?_)
  · obtain ⟨kG, gD⟩ := hG
    obtain ⟨c0, c1⟩ := hN.in_ (x := 0 + (i : Int)) (by omega) (by omega)
    have e : (overI ms ns)[i]? = some (nmF ms (nmF ns (0 + (i : Int)))) := by
      rw [← over_upTo hN, List.getElem?_map, upTo_get' (by omega), Int.zero_add]
      rfl
    refine ⟨rfl, yes_ite ?_⟩
    refine ⟨_, rfl, _, rfl, _, rfl, na, _, _, _, rfl, rfl, (hnsB.ke kG).sq, hN.at_ (by omega) (by omega), ma, _, _, _, rfl, rfl, (hmsB.ke kG).sq, hM.at_ c0 c1, ?_⟩
    refine ⟨_, gD, by rw [List.length_map, List.length_take]; omega, kG.over nD, ?_⟩
    rw [upd_same, take_next e, List.map_append]
    rfl
  obtain ⟨kC, gD⟩ := hG
  have hovl : (overI ms ns).length = n := (over_prm hM hN).len
  rw [List.take_of_length_le (by omega)] at gD
  refine ⟨D, _, rfl, .inl ⟨sqL_of gD, fun o1 no1 => ?_⟩⟩
  have kD := kC.trans (Ke.new (S := fun _ => False) (o := .tup ((overI ms ns).map V.int)) no1)
  have go1 : (upd G o1 (.tup ((overI ms ns).map V.int))) o1 = some (.tup ((overI ms ns).map V.int)) := upd_same
  generalize upd G o1 _ = HD at *
  refine ⟨_, rfl, ra, rfl, ⟨_, (hra.ke kD).sq⟩, fun D2 nD2 => ?_⟩
  refine lc_tup (K := K) (a := ra) (xs := row.map V.int) (fun i G => Ke HD G ∧ G D2 = some (.lst (((overI ord row).take i).map V.int))) ⟨Ke.new nD2, upd_same⟩ (fun i G _ hG => (hra.ke (kD.trans hG.1)).sq) (fun i x G hx hG => ?_) (fun G2 hG => ?_)
  · obtain ⟨kG, gD2⟩ := hG
    have il := (List.getElem?_eq_some_iff.mp hx).1
    rw [List.length_map] at il
    obtain ⟨j, hj, rfl⟩ := int_at hx
    obtain ⟨j0, j1⟩ := hR.mem.mp (List.mem_of_getElem? hj)
    have e : (overI ord row)[i]? = some (nmF ord j) := by
      unfold overI
      rw [List.getElem?_map, hj]
      rfl
    refine ⟨rfl, yes_ite ?_⟩
    refine ⟨_, rfl, _, rfl, oa, _, _, _, rfl, rfl, (hoaB.ke (kD.trans kG)).sq, hO.at_ j0 j1, ?_⟩
    refine ⟨_, gD2, by rw [List.length_map, List.length_take]; omega, kG.over nD2, ?_⟩
    rw [upd_same, take_next e, List.map_append]
    rfl
  obtain ⟨kE, gD2⟩ := hG
  have hovr := over_prm hO hR
  have hovl2 : (overI ord row).length = ts.length := hovr.len
  rw [List.length_map, List.take_of_length_le (by omega)] at gD2
  refine ⟨D2, _, rfl, .inl ⟨sqL_of gD2, fun o2 no2 => ?_⟩⟩
  have kF := kE.trans (Ke.new (S := fun _ => False) (o := .tup ((overI ord row).map V.int)) no2)
  have go2 : (upd G2 o2 (.tup ((overI ord row).map V.int))) o2 = some (.tup ((overI ord row).map V.int)) := upd_same
  have go1F := Ke.tup kF go1
  generalize upd G2 o2 _ = HF at *
  refine ⟨by show 2 ≤ sizeLine; decide, fun o3 no3 => ?_⟩
  have kG := kF.trans (Ke.new (S := fun _ => False) (o := .tup [.ref o1, .ref o2]) no3)
  have go3 : (upd HF o3 (.tup [.ref o1, .ref o2])) o3 = some (.tup [.ref o1, .ref o2]) := upd_same
  have go1G := Ke.tup (Ke.new (S := fun _ => False) (o := .tup [.ref o1, .ref o2]) no3) go1F
  have go2G := Ke.tup (Ke.new (S := fun _ => False) (o := .tup [.ref o1, .ref o2]) no3) go2
  have kBG := kD.trans kG
  generalize upd HF o3 _ = HG at *
  refine ⟨_, rfl, _, rfl, _, rfl, v4, n, renF ns ts ord, ma, ms, ra, row, rfl, WoB.ke kBG, okr, hn1, hn2, by omega, (hmsB.ke kBG).sq, hM, (hra.ke kBG).sq, by rw [rl]; exact hR, hTB2.kx kBG, fun HH vh kH Wh => ?_⟩
  rw [ren_ren hok hN hO hR] at Wh
  have kBH := kBG.trans kH
  refine ⟨_, rfl, _, rfl, o3, _, 0, _, rfl, rfl, sqT_of (Ke.tup kH go3), atI_nat (j := 0) rfl, _, rfl, o3, _, 1, _, rfl, rfl, sqT_of (Ke.tup kH go3), atI_nat (j := 1) rfl, .ref t, n, ts, o1, overI ms ns, o2, overI ord row, rfl, WB.ke kBH, hok, hn1, hn2, hlen, sqT_of (Ke.tup kH go1G), over_prm hM hN, sqT_of (Ke.tup kH go2G), hovr, hTB2.kx kBH, fun HI vi kI Wi => ?_⟩
  refine ⟨_, _, (Wh.ke kI).dp, Wi.dp, (dWeb_sh _ _).shaped, (dWeb_sh _ _).shaped, ?_⟩
  rw [SeqAt.eqv_refl _ (SeqAt.canLay_of_shaped (dWeb_sh _ _).shaped)]
  refine ⟨_, rfl, iteF ?_⟩
  have kBI := kBH.trans kI
  have htI := Ke.tup kBI htB
  have huI := Ke.tup kBI huB
  refine ⟨_, rfl, _, rfl, t, _, 0, _, rfl, rfl, sqT_of htI, atI_nat (j := 0) rfl, _, rfl, ⟨by omega, by omega, by omega, by omega, by omega⟩, fun q1 nq1 => ?_⟩
  have kJ := Ke.new (S := fun _ => False) (o := .tup (rgV 0 (n : Int))) nq1
  have gq1 : (upd HI q1 (.tup (rgV 0 (n : Int)))) q1 = some (.tup ((upTo (n : Int)).map V.int)) := by rw [← rgV_up]; exact upd_same
  generalize upd HI q1 _ = HJ at *
  refine ⟨_, rfl, t, _, 1, _, rfl, rfl, sqT_of (Ke.tup kJ htI), atI_nat (j := 1) rfl, u, _, rfl, .inr (sqT_of (Ke.tup kJ huI)), _, rfl, ?_⟩
  rw [hrl]
  refine ⟨⟨by omega, by omega, by omega, by omega, by omega⟩, fun q2 nq2 => ?_⟩
  have kK := Ke.new (S := fun _ => False) (o := .tup (rgV 0 ((ts.length : Nat) : Int))) nq2
  have gq2 : (upd HJ q2 (.tup (rgV 0 ((ts.length : Nat) : Int)))) q2 = some (.tup ((upTo (ts.length : Int)).map V.int)) := by rw [← rgV_up]; exact upd_same
  have gq1K := Ke.tup kK gq1
  generalize upd HJ q2 _ = HK at *
  have kBK := kBI.trans (kJ.trans kK)
  refine ⟨.ref t, n, ts, q1, upTo (n : Int), q2, upTo (ts.length : Int), rfl, WB.ke kBK, hok, hn1, hn2, hlen, sqT_of gq1K, .refl, sqT_of gq2, .refl, hTB2.kx kBK, fun HL vl kL Wl => ?_⟩
  rw [ren_same hok] at Wl
  have kBL := kBK.trans kL
  refine ⟨_, rfl, _, rfl, _, _, Wl.dp, (WB.ke kBL).dp, (dWeb_sh _ _).shaped, (dWeb_sh _ _).shaped, ?_⟩
  rw [SeqAt.eqv_refl _ (SeqAt.canLay_of_shaped (dWeb_sh _ _).shaped)]
  refine ⟨true, rfl, (if_pos rfl).mpr ?_⟩
  refine ⟨_, rfl, _, rfl, _, rfl, by show 3 ≤ sizeLine; decide, fun s2 ns2 => ?_⟩
  have kM := Ke.new (S := fun _ => False) (o := .lst [.ref t, .ref na, .ref oa]) ns2
  have gs2 : (upd HL s2 (.lst [.ref t, .ref na, .ref oa])) s2 = some (.lst [.ref t, .ref na, .ref oa]) := upd_same
  have kBM := kBL.trans kM
  refine ⟨s2, _, rfl, .lst (sqL_of gs2) (.cons (WB.ke kBM).dp (.cons (.tup (hnsB.ke kBM).sq (dp_ints ns)) (.cons (.tup (hoaB.ke kBM).sq (dp_ints ord)) .nil))), shw.sh, shw.hd, by have := shw.dp; omega, shw.fits (by omega), ?_⟩
  refine ⟨_, rfl, rfl, ?_⟩
  rw [decide_eq_true rfl]
  exact q _ (kdB.ke kBM)
theorem ok__law_led {P : Program} {w : World} {K : PySem.W.Frag} {mg : Str → Option Value} {base : Heap} {tb : List Addr} {f : Addr} {fd : FuncData} {f_renamed_web : Addr} {fd_renamed_web : FuncData} {f_led_laying : Addr} {fd_led_laying : FuncData} {f_right_laying : Addr} {fd_right_laying : FuncData} {f__law_next : Addr} {fd__law_next : FuncData} {f__law_laying : Addr} {fd__law_laying : FuncData} {f__law_names : Addr} {fd__law_names : FuncData} {f__law_order_of : Addr} {fd__law_order_of : FuncData} (T : Blt mg) (D__law_led : DefAt K mg "_law_led" s_law_led ["_law_deck_here", "_law_web_here"] f fd) (XC : Xcs xfs K mg) (D_renamed_web : DefAt K mg "renamed_web" s_renamed_web ["web", "names", "order"] f_renamed_web fd_renamed_web) (G_renamed_web : FnOk P w K mg base CX0 8 f_renamed_web fd_renamed_web ["web", "names", "order"] (sp_renamed_web K tb)) (D_led_laying : DefAt K mg "led_laying" s_led_laying ["laying", "order"] f_led_laying fd_led_laying) (G_led_laying : FnOk P w K mg base CX0 7 f_led_laying fd_led_laying ["laying", "order"] (sp_led_laying K tb)) (D_right_laying : DefAt K mg "right_laying" s_right_laying ["web", "k", "thing"] f_right_laying fd_right_laying) (G_right_laying : FnOk P w K mg base CX0 7 f_right_laying fd_right_laying ["web", "k", "thing"] (sp_right_laying K tb)) (D__law_next : DefAt K mg "_law_next" s_law_next ["_law_deck_here"] f__law_next fd__law_next) (G__law_next : FnOk P w K mg base CX0 1 f__law_next fd__law_next ["_law_deck_here"] (sp__law_next K tb)) (D__law_laying : DefAt K mg "_law_laying" s_law_laying ["_law_deck_here", "_law_web_here"] f__law_laying fd__law_laying) (G__law_laying : FnOk P w K mg base CX0 3 f__law_laying fd__law_laying ["_law_deck_here", "_law_web_here"] (sp__law_laying K tb)) (D__law_names : DefAt K mg "_law_names" s_law_names ["_law_deck_here", "_law_points"] f__law_names fd__law_names) (G__law_names : FnOk P w K mg base CX0 2 f__law_names fd__law_names ["_law_deck_here", "_law_points"] (sp__law_names K tb)) (D__law_order_of : DefAt K mg "_law_order_of" s_law_order_of ["_law_deck_here", "_law_many"] f__law_order_of fd__law_order_of) (G__law_order_of : FnOk P w K mg base CX0 2 f__law_order_of fd__law_order_of ["_law_deck_here", "_law_many"] (sp__law_order_of K tb)) :
    FnOk P w K mg base CX0 9 f fd ["_law_deck_here", "_law_web_here"] (sp__law_led K tb) := by
  refine D__law_led.ok sc__law_led (fun vs H Q E h => by
    obtain ⟨p, v, n, ts, rfl, hd, W, hok, hn1, hn2, hlen, hT0, q⟩ := h
    all_goals rfl) fun A outer s H vs Q E hr h => ?_
  obtain ⟨p, v, n, ts, rfl, hd, W, hok, hn1, hn2, hlen, hT0, q⟩ := h
  refine ⟨_, pss_cons (ps_set (i := 2) sc__law_led.nd rfl (.inl rfl) (pe_call G__law_names (hr.mono (by decide)) (by rfl) D__law_names.g D__law_names.F.kp D__law_names.b .nil pass0 (pa_cons (pv 0) (pa_cons (pe_ix (ix_tupK (K := K)) (pv 1) (pe_int) (fun _ _ => rfl)) pa_nil))))
     (pss_cons (ps_set (i := 3) sc__law_led.nd rfl (.inl rfl) (pe_call G__law_order_of (hr.mono (by decide)) (by rfl) D__law_order_of.g D__law_order_of.F.kp D__law_order_of.b .nil pass0 (pa_cons (pv 0) (pa_cons (pe_callB (lenK (K := K)) (by rfl) T.b_len PySem.boot_len (pa_cons (pe_ix (ix_tupK (K := K)) (pv 1) (pe_int) (fun _ _ => rfl)) pa_nil)) pa_nil))))
     (pss_cons (ps_asg (pe_call G__law_laying (hr.mono (by decide)) (by rfl) D__law_laying.g D__law_laying.F.kp D__law_laying.b .nil pass0 (pa_cons (pv 0) (pa_cons (pv 1) pa_nil))) (tgtK (K := K) (n := 2) (pgs_cons (pg_name (i := 4) sc__law_led.nd rfl (.inl rfl)) (pgs_cons (pg_name (i := 5) sc__law_led.nd rfl (.inl rfl)) pgs_nil))))
     (pss_cons (ps_set (i := 7) sc__law_led.nd rfl (.inl rfl) (pe_callTy (tupleK (K := K)) (by rfl) T.b_tuple (by decide +kernel) (pa_cons (pe_lc (own := [("_law_one", 6)]) rfl sc__law_led.nd (pi_tup (pv 5)) (blkOk_by (own := [("_law_one", 6)]) (N := nm__law_led) (sc := defScope s_law_led) (by decide +kernel)) (fun _ _ _ _ _ => pg_name (i := 6) sc__law_led.nd rfl (.inl rfl)) (fun _ _ _ _ _ => pts_nil) (fun _ _ _ _ _ => pe_ix (ix_listK (K := K)) (pe_lst (pa_cons (pv 6) (pa_cons (pe_non) (pa_cons (pe_int) pa_nil)))) (pe_op op_mod (pe_call G__law_next (hr.mono (by decide)) (by rfl) D__law_next.g D__law_next.F.kp D__law_next.b .nil pass0 (pa_cons (pv 0) pa_nil)) (pe_int)) (fun _ _ => rfl))) pa_nil)))
     (pss_cons (ps_for PassesOwn.never rfl (pi_list (pe_lst (pa_cons (pv 5) (pa_cons (pv 7) pa_nil)))) (pg_name (i := 6) sc__law_led.nd rfl (.inr rfl))
     (pss_cons (ps_set (i := 8) sc__law_led.nd rfl (.inl rfl) (pe_call G_led_laying (hr.mono (by decide)) (by rfl) D_led_laying.g D_led_laying.F.kp D_led_laying.b .nil pass0 (pa_cons (pv 6) (pa_cons (pv 3) pa_nil))))
     (pss_cons (ps_if (pt_cmpR (neDK (K := K) hr.units) (pv 8) (pe_callTy (tupleK (K := K)) (by rfl) T.b_tuple (by decide +kernel) (pa_cons (pe_lc (own := [("_law_tie_here", 9)]) rfl sc__law_led.nd (pi_tup (pv 3)) (blkOk_by (own := [("_law_tie_here", 9)]) (N := nm__law_led) (sc := defScope s_law_led) (by decide +kernel)) (fun _ _ _ _ _ => pg_name (i := 9) sc__law_led.nd rfl (.inl rfl)) (fun _ _ _ _ _ => pts_nil) (fun _ _ _ _ _ => pe_ix (ix_tupK (K := K)) (pv 6) (pv 9) (fun _ _ => rfl))) pa_nil)) (nomark _))
     (pss_one (ps_ret (pe_bl)))
     (pss_nil))
     (pss_one (ps_if (pt_cmpR op_ne (pe_call G_right_laying (hr.mono (by decide)) (by rfl) D_right_laying.g D_right_laying.F.kp D_right_laying.b .nil pass0 (pa_cons (pe_call G_renamed_web (hr.mono (by decide)) (by rfl) D_renamed_web.g D_renamed_web.F.kp D_renamed_web.b .nil pass0 (pa_cons (pv 1) (pa_cons (pv 2) (pa_cons (pv 3) pa_nil)))) (pa_cons (pe_callB (call_max2 rfl) (by rfl) T.b_max (by decide +kernel) (pa_cons (pe_int) (pa_cons (pv 4) pa_nil))) (pa_cons (pv 8) pa_nil)))) (pe_call G_right_laying (hr.mono (by decide)) (by rfl) D_right_laying.g D_right_laying.F.kp D_right_laying.b .nil pass0 (pa_cons (pv 1) (pa_cons (pe_callB (call_max2 rfl) (by rfl) T.b_max (by decide +kernel) (pa_cons (pe_int) (pa_cons (pv 4) pa_nil))) (pa_cons (pv 6) pa_nil)))) (nomark _))
     (pss_one (ps_ret (pe_bl)))
     (pss_nil))))))
     (pss_one (ps_ret (pe_cmpR (eqDK (K := K) hr.units) (pe_call G_led_laying (hr.mono (by decide)) (by rfl) D_led_laying.g D_led_laying.F.kp D_led_laying.b .nil pass0 (pa_cons (pv 5) (pa_cons (pe_tupRg rfl (by rfl) T.b_tuple (prg_1 (by rfl) T.b_range (pe_callB (lenK (K := K)) (by rfl) T.b_len PySem.boot_len (pa_cons (pv 5) pa_nil)))) pa_nil))) (pv 5) (nomark _)))))))), ?_⟩
  have LB := line_big
  obtain ⟨t, u, rs, rfl, ht, hu, hT⟩ := id W
  have hrl := hT.length
  refine ⟨_, rfl, _, rfl, t, _, 0, _, rfl, rfl, sqT_of ht, atI_nat (j := 0) rfl, p, n, rfl, hd, hn1, hn2, fun H1 na ns k1 nna hns hN => ?_⟩
  have W1 := W.dk k1 hd
  have ht1 := k1.tup hd ht
  have hu1 := k1.tup hd hu
  have hT1 := hT0.dk k1
  refine ⟨_, rfl, _, rfl, t, _, 1, _, rfl, rfl, sqT_of ht1, atI_nat (j := 1) rfl, u, _, rfl, .inr (sqT_of hu1), p, ts.length, by rw [hrl]; rfl, k1.d, hlen, fun H2 oa ord k2 noa hoa hO => ?_⟩
  have W2 := W1.dk k2 k1.d
  have ht2 := k2.tup k1.d ht1
  have hu2 := k2.tup k1.d hu1
  have hns2 := hns.dk k2 k1.d
  have hT2 := hT1.dk k2
  refine ⟨_, rfl, _, rfl, p, _, (n : Int), ts, rfl, k2.d, W2, hok, by omega, by omega, by omega, fun H3 lu lc m ws k3 nlu nlc hlu hlc hm0 hm1 hLd => ?_⟩
  have W3 := W2.dk k3 k2.d
  have hns3 := hns2.dk k3 k2.d
  have hoa3 := hoa.dk k3 k2.d
  have hT3 := hT2.dk k3
  have d3 := k3.d
  refine ⟨lu, _, rfl, sqT_of hlu, rfl, _, _, rfl, _, [], rfl, rfl, ?_⟩
  refine ⟨_, rfl, lc, rfl, ⟨_, sqT_of hlc⟩, fun D nD => ?_⟩
  have nDp : D ≠ p := (d3.ne nD).symm
  have hwl : ws.length = ts.length := hLd.len
  refine lc_tup (K := K) (a := lc) (xs := ws) (fun i G => ∃ bs, Dk p H3 G ∧ G D = some (.lst bs) ∧ bs.length = i ∧ ∀ y ∈ bs, IsO y) ⟨[], (Dk.refl d3).new nD, upd_same, rfl, fun _ z => nomatch z⟩ (fun i G _ hG => ?_) (fun i x G hx hG => ?_) (fun G hG => ?_)
  · obtain ⟨_, kG, _⟩ := hG
    exact sqT_of (kG.tup d3 hlc)
  · obtain ⟨bs, kG, gD, hbl, hbo⟩ := hG
    have il := (List.getElem?_eq_some_iff.mp hx).1
    have hxO : IsO x := hLd.isO x (List.mem_of_getElem? hx)
    refine ⟨rfl, yes_ite ?_⟩
    refine ⟨_, rfl, by show 3 ≤ sizeLine; decide, fun l1 nl1 => ?_⟩
    have kl := kG.new nl1 (o := .lst [x, .non, .int 0])
    have gD1 := lst_new (o := .lst [x, .non, .int 0]) nl1 gD
    have gl1 : (upd G l1 (.lst [x, .non, .int 0])) l1 = some (.lst [x, .non, .int 0]) := upd_same
    have nlp : l1 ≠ p := (kG.d.ne nl1).symm
    refine ⟨_, rfl, p, rfl, kl.d, fun r G1 r0 r1 k4 => ?_⟩
    have er := emod_bds r (n := 3) (by decide)
    refine ⟨_, _, rfl, rfl, by show (0 : Int) < 3; decide, ?_⟩
    have gl2 := k4.lst gl1 nlp
    have gD2 := k4.lst gD1 nDp
    have hy : ∃ y, atI [x, V.non, V.int 0] (r % 3) = some y ∧ IsO y := by
      obtain h | h | h : r % 3 = 0 ∨ r % 3 = 1 ∨ r % 3 = 2 := by omega
      · exact ⟨x, by rw [h]; rfl, hxO⟩
      · exact ⟨.non, by rw [h]; rfl, .inl rfl⟩
      · exact ⟨.int 0, by rw [h]; rfl, .inr ⟨0, rfl⟩⟩
    obtain ⟨y, ey, yO⟩ := hy
    refine ⟨l1, _, _, y, rfl, rfl, sqL_of gl2, ey, ?_⟩
    refine ⟨bs, gD2, by omega, _, ((kl.trans k4).over d3 nD), upd_same, by rw [List.length_append, hbl]; rfl, fun z hz => ?_⟩
    rcases List.mem_append.mp hz with hz | hz
    · exact hbo z hz
    · rw [List.mem_singleton.mp hz]
      exact yO
  obtain ⟨bs, kG, gD, hbl, hbo⟩ := hG
  refine ⟨D, bs, rfl, .inl ⟨sqL_of gD, fun b nb => ?_⟩⟩
  have nbp : b ≠ p := (kG.d.ne nb).symm
  have k4 := k1.trans (k2.trans (k3.trans (kG.new nb (o := .tup bs))))
  have W4 := W.dk k4 hd
  have hlc4 : (upd G b (.tup bs)) lc = some (.tup ws) := Ke.tup (Ke.new nb) (kG.tup d3 hlc)
  have hb4 : (upd G b (.tup bs)) b = some (.tup bs) := upd_same
  have hns4 : TF (upd G b (.tup bs)) na (ns.map V.int) := (hns3.dk kG d3).new nb
  have hoa4 : TF (upd G b (.tup bs)) oa (ord.map V.int) := (hoa3.dk kG d3).new nb
  have hT4 : Tabs tb (upd G b (.tup bs)) := hT0.dk k4
  have d4 := k4.d
  generalize upd G b _ = H4 at *
  refine ⟨_, rfl, _, rfl, by show 2 ≤ sizeLine; decide, fun lb nlb => ?_⟩
  have kb := Ke.new (S := fun _ => False) (o := .lst [.ref lc, .ref b]) nlb
  have gb : (upd H4 lb (.lst [.ref lc, .ref b])) lb = some (.lst [.ref lc, .ref b]) := upd_same
  refine ⟨lb, rfl, ⟨_, sqL_of gb⟩, ?_⟩
  refine for_list (K := K) (a := lb) (xs := [.ref lc, .ref b]) (fun i σ G => ∃ (y6 y8 y9 : Option V), σ = [some (.ref p), some (.ref t), some (.ref na), some (.ref oa), some (.int m), some (.ref lc), y6, some (.ref b), y8, y9] ∧ Ke H4 G ∧ G lb = some (.lst [.ref lc, .ref b])) ⟨none, none, none, rfl, kb, gb⟩ (fun i σ G _ hG => ?_) (fun i x σ G hx hG => ?_) (fun σ G hG => ?_)
  · obtain ⟨_, _, _, _, _, g⟩ := hG
    exact sqL_of g
  · obtain ⟨y6, y8, y9, rfl, kG2, gbG⟩ := hG
    obtain ⟨z, ms, rfl, hz4, hml, hmO⟩ : ∃ (z : Addr) (ms : List V), x = .ref z ∧ H4 z = some (.tup ms) ∧ ms.length = ts.length ∧ ∀ y ∈ ms, IsO y := by
      match i, hx with
      | 0, hx => cases hx; exact ⟨lc, ws, rfl, hlc4, hwl, hLd.isO⟩
      | 1, hx => cases hx; exact ⟨b, bs, rfl, hb4, by omega, hbo⟩
      | i + 2, hx => cases hx
    have hz := Ke.tup kG2 hz4
    have hoG := TF.ke hoa4 kG2
    have hnG := TF.ke hns4 kG2
    have WG := W4.ke kG2
    have hTG := hT4.kx kG2
    refine ⟨_, rfl, _, rfl, z, ms, oa, ord, rfl, hz, hoG.sq, by rw [hml]; exact hO, by omega, hTG, fun G2 lu2 k5 nlu2 hlu2 => ?_⟩
    have hz2 := Ke.tup k5 hz
    have hoG2 := hoG.ke k5
    have hnG2 := hnG.ke k5
    have hol := hO.len
    refine ⟨_, rfl, _, rfl, oa, rfl, ⟨_, hoG2.sq⟩, fun D2 nD2 => ?_⟩
    refine lc_tup (K := K) (a := oa) (xs := ord.map V.int) (fun i G => Ke G2 G ∧ G D2 = some (.lst ((ledL ord ms).take i))) ⟨Ke.new nD2, upd_same⟩ (fun i G _ hG => (hoG2.ke hG.1).sq) (fun i x G hx hG => ?_) (fun G3 hG => ?_)
    · obtain ⟨k6, gD2⟩ := hG
      obtain ⟨j, hj, rfl⟩ := int_at hx
      obtain ⟨j0, j1⟩ := hO.mem.mp (List.mem_of_getElem? hj)
      have e : (ledL ord ms)[i]? = some (ms.getD j.toNat .non) := by
        unfold ledL
        rw [List.getElem?_map, hj]
        rfl
      have hll : (ledL ord ms).length = ord.length := by unfold ledL; rw [List.length_map]
      refine ⟨rfl, yes_ite ?_⟩
      refine ⟨_, rfl, _, rfl, z, _, _, _, rfl, rfl, sqT_of (Ke.tup k6 hz2), atI_getD j0 (by omega), ?_⟩
      refine ⟨_, gD2, by rw [List.length_take]; omega, k6.over nD2, ?_⟩
      rw [upd_same, take_next e]
    obtain ⟨k6, gD2⟩ := hG
    have hll : (ledL ord ms).length = ord.length := by unfold ledL; rw [List.length_map]
    have hlO : ∀ y ∈ ledL ord ms, IsO y := fun y hy => hmO y ((ledL_perm hO hml).mem_iff.mp hy)
    rw [List.length_map, ← hll, List.take_length] at gD2
    refine ⟨D2, _, rfl, .inl ⟨sqL_of gD2, fun l5 nl5 => ?_⟩⟩
    have k7 := Ke.new (S := fun _ => False) (o := .tup (ledL ord ms)) nl5
    have g5 : (upd G3 l5 (.tup (ledL ord ms))) l5 = some (.tup (ledL ord ms)) := upd_same
    have k57 := k5.trans (k6.trans k7)
    have hlu7 := Ke.tup (k6.trans k7) hlu2
    have hz7 := Ke.tup k57 hz
    have hoG7 := hoG.ke k57
    have hnG7 := hnG.ke k57
    have WG7 := WG.ke k57
    have hTG7 := hTG.kx k57
    generalize upd G3 l5 _ = G7 at *
    refine ⟨_, _, .tup (sqT_of hlu7) (dp_O hlO), .tup (sqT_of g5) (dp_O hlO), shaped_O _, shaped_O _, ?_⟩
    rw [SeqAt.eqv_refl _ (SeqAt.canLay_of_shaped (shaped_O _))]
    refine ⟨_, rfl, iteF ?_⟩
    refine ⟨_, rfl, _, rfl, _, rfl, .ref t, n, ts, na, ns, oa, ord, rfl, WG7, hok, hn1, hn2, hlen, hnG7.sq, hN, hoG7.sq, hO, hTG7, fun G8 v8 k8 W8 => ?_⟩
    obtain ⟨kk, ekk⟩ : ∃ kk : Int, kk = if m > 1 then m else 1 := ⟨_, rfl⟩
    have hk0 : 0 ≤ kk := by rw [ekk]; split <;> omega
    refine ⟨_, rfl, 1, _, rfl, _, rfl, v8, .ref lu2, (n : Int), renF ns ts ord, _, some (ledL ord ms), rfl, W8, .yes (Ke.tup k8 hlu7) (fun y hy => (hlO y hy).ty), ren_ok hok hN hO, by omega, by omega, by rw [ren_len]; omega, hTG7.kx k8, fun G9 k9 => ?_⟩
    have k79 := k8.trans k9
    refine ⟨_, rfl, _, rfl, 1, _, rfl, _, rfl, .ref t, .ref z, (n : Int), ts, _, some ms, rfl, WG7.ke k79, .yes (Ke.tup k79 hz7) (fun y hy => (hmO y hy).ty), hok, by omega, by omega, by omega, hTG7.kx k79, fun G10 k10 => ?_⟩
    rw [led_lay hN hO hml]
    refine ⟨rfl, _, rfl, ?_⟩
    rw [decide_eq_true (p := V.bl (layO ts (if m > 1 then m else 1) (some ms)) = V.bl (layO ts (if m > 1 then m else 1) (some ms))) rfl]
    refine iteF ?_
    exact ⟨_, _, _, rfl, kG2.trans (k57.trans (k79.trans k10)), Ke.lst (k57.trans (k79.trans k10)) gbG⟩
  · obtain ⟨y6, y8, y9, rfl, kG2, gbG⟩ := hG
    have hlcG := Ke.tup kG2 hlc4
    refine ⟨_, rfl, _, rfl, lc, _, rfl, .inr (sqT_of hlcG), _, rfl, ?_⟩
    refine ⟨⟨by omega, by omega, by omega, by omega, by omega⟩, fun q1 nq1 => ?_⟩
    have k5 := Ke.new (S := fun _ => False) (o := .tup (rgV 0 ((ws.length : Nat) : Int))) nq1
    refine ⟨lc, ws, q1, upTo (ws.length : Int), rfl, Ke.tup k5 hlcG, sqT_of (by rw [← rgV_up]; exact upd_same), .refl, by omega, (hT4.kx kG2).kx k5, fun G2 u2 k6 nu2 hu2 => ?_⟩
    rw [ledL_same] at hu2
    have kf := k5.trans k6
    refine ⟨_, rfl, _, _, .tup (sqT_of hu2) (dp_O hLd.isO), .tup (sqT_of (Ke.tup kf hlcG)) (dp_O hLd.isO), shaped_O _, shaped_O _, ?_⟩
    rw [SeqAt.eqv_refl _ (SeqAt.canLay_of_shaped (shaped_O _))]
    exact q _ (k4.ke (kG2.trans kf))
theorem ok_law {P : Program} {w : World} {K : PySem.W.Frag} {mg : Str → Option Value} {base : Heap} {tb : List Addr} {f : Addr} {fd : FuncData} {f__law_deck : Addr} {fd__law_deck : FuncData} {f__law_tie : Addr} {fd__law_tie : FuncData} {f__law_web : Addr} {fd__law_web : FuncData} {f__law_good : Addr} {fd__law_good : FuncData} {f__law_led : Addr} {fd__law_led : FuncData} (T : Blt mg) (D_law : DefAt K mg "law" s_law ["_law_script"] f fd) (XC : Xcs xfs K mg) (D__law_deck : DefAt K mg "_law_deck" s_law_deck ["_law_script", "_law_many"] f__law_deck fd__law_deck) (G__law_deck : FnOk P w K mg base CX0 2 f__law_deck fd__law_deck ["_law_script", "_law_many"] (sp__law_deck K tb)) (D__law_tie : DefAt K mg "_law_tie" s_law_tie ["_law_deck_here", "_law_points"] f__law_tie fd__law_tie) (G__law_tie : FnOk P w K mg base CX0 2 f__law_tie fd__law_tie ["_law_deck_here", "_law_points"] (sp__law_tie K tb)) (D__law_web : DefAt K mg "_law_web" s_law_web ["_law_deck_here", "_law_points", "_law_most"] f__law_web fd__law_web) (G__law_web : FnOk P w K mg base CX0 4 f__law_web fd__law_web ["_law_deck_here", "_law_points", "_law_most"] (sp__law_web K tb)) (D__law_good : DefAt K mg "_law_good" s_law_good ["_law_deck_here", "_law_web_here"] f__law_good fd__law_good) (G__law_good : FnOkG P w K mg base CX0 9 f__law_good fd__law_good ["_law_deck_here", "_law_web_here"] (sp__law_good K tb)) (D__law_led : DefAt K mg "_law_led" s_law_led ["_law_deck_here", "_law_web_here"] f__law_led fd__law_led) (G__law_led : FnOk P w K mg base CX0 9 f__law_led fd__law_led ["_law_deck_here", "_law_web_here"] (sp__law_led K tb)) :
    FnOkG P w K mg base CX0 10 f fd ["_law_script"] (sp_law K tb) := by
  refine D_law.okG sc_law (fun vs H Q E h => by
    obtain ⟨a, ns, rfl, hS, hlen, hTb, q⟩ := h
    all_goals rfl) fun A outer s H vs Q E hgd hr h => ?_
  obtain ⟨a, ns, rfl, hS, hlen, hTb, q⟩ := h
  refine ⟨_, pss_cons (ps_set (i := 1) sc_law.nd rfl (.inr rfl) (pe_call G__law_deck (hr.mono (by decide)) (by rfl) D__law_deck.g D__law_deck.F.kp D__law_deck.b .nil pass0 (pa_cons (pv 0) (pa_cons (pe_int) pa_nil))))
     (pss_cons (ps_for PassesOwn.never rfl (pi_range1 (by rfl) T.b_range (pa_cons (pe_int) pa_nil)) (pg_name (i := 2) sc_law.nd rfl (.inl rfl))
     (pss_cons (ps_set (i := 3) sc_law.nd rfl (.inl rfl) (pe_call G__law_web (hr.mono (by decide)) (by rfl) D__law_web.g D__law_web.F.kp D__law_web.b .nil pass0 (pa_cons (pv 1) (pa_cons (pe_int) (pa_cons (pe_int) pa_nil)))))
     (pss_one (ps_if (PW.pt (pw_or (pt_not (pt_val (pe_callG hgd G__law_good (hr.mono (by decide)) (by rfl) D__law_good.g D__law_good.F.kp D__law_good.b .nil pass0 (pa_cons (pv 1) (pa_cons (pv 3) pa_nil))))) (pw_or1 (pt_not (pt_val (pe_call G__law_led (hr.mono (by decide)) (by rfl) D__law_led.g D__law_led.F.kp D__law_led.b .nil pass0 (pa_cons (pv 1) (pa_cons (pv 3) pa_nil))))))))
     (pss_one (ps_ret (pe_bl)))
     (pss_nil)))))
     (pss_cons (ps_set (i := 5) sc_law.nd rfl (.inl rfl) (pe_tup (pa_cons (pe_int) (pa_cons (pe_callTy (tupleK (K := K)) (by rfl) T.b_tuple (by decide +kernel) (pa_cons (pe_lc (own := [("_law_j", 4)]) rfl sc_law.nd (pi_range1 (by rfl) T.b_range (pa_cons (pe_int) pa_nil)) (blkOk_by (own := [("_law_j", 4)]) (N := nm_law) (sc := defScope s_law) (by decide +kernel)) (fun _ _ _ _ _ => pg_name (i := 4) sc_law.nd rfl (.inl rfl)) (fun _ _ _ _ _ => pts_nil) (fun _ _ _ _ _ => pe_call G__law_tie (hr.mono (by decide)) (by rfl) D__law_tie.g D__law_tie.F.kp D__law_tie.b .nil pass0 (pa_cons (pv 1) (pa_cons (pe_int) pa_nil)))) pa_nil)) pa_nil))))
     (pss_one (ps_ret (pe_callG hgd G__law_good (hr.mono (by decide)) (by rfl) D__law_good.g D__law_good.F.kp D__law_good.b .nil pass0 (pa_cons (pv 1) (pa_cons (pv 5) pa_nil))))))), ?_⟩
  have LB := line_big
  refine ⟨_, rfl, a, ns, 900, rfl, hS, hlen, by decide, by decide, fun p G0 np k0 hd => ?_⟩
  have hT0 : Tabs tb G0 := hTb.kx k0
  refine ⟨2, rfl, by decide, by decide, ?_⟩
  refine for_range (n := 2) (fun i σ G => ∃ (y2 y3 y4 y5 : Option V), σ = [some (.ref a), some (.ref p), y2, y3, y4, y5] ∧ Dk p G0 G) ⟨none, none, none, none, rfl, .refl hd⟩ (fun i σ G hi hG => ?_) (fun σ G hG => ?_)
  · obtain ⟨y2, y3, y4, y5, rfl, kG⟩ := hG
    refine ⟨_, rfl, p, 10, 20, rfl, kG.d, by decide, by decide, by decide, by decide, fun G1 v n ts k1 W hn1 hn2 hm ok => ?_⟩
    obtain ⟨n, rfl⟩ := Int.eq_ofNat_of_zero_le (show 0 ≤ n by omega)
    have k01 := kG.trans k1
    refine ⟨_, rfl, _, rfl, p, v, n, ts, rfl, k1.d, W, ok, by omega, by omega, by omega, hT0.dk k01, fun G2 k2 => ?_⟩
    refine ⟨_, rfl, (if_neg Bool.false_ne_true).mpr ?_⟩
    have k02 := k01.trans k2
    refine ⟨_, rfl, _, rfl, p, v, n, ts, rfl, k2.d, W.dk k2 k1.d, ok, by omega, by omega, by omega, hT0.dk k02, fun G3 k3 => ?_⟩
    refine ⟨_, rfl, iteF ?_⟩
    exact ⟨_, _, _, _, rfl, k02.trans k3⟩
  · obtain ⟨y2, y3, y4, y5, rfl, kG⟩ := hG
    have dG := kG.d
    refine ⟨120, rfl, by decide, by decide, fun D nD => ?_⟩
    have nDp : D ≠ p := (dG.ne nD).symm
    refine lc_range (lo := 0) (n := 120) (fun i G' => ∃ (rs : List V) (ts : List (Int × Int)), G' D = some (.lst rs) ∧ Ties G' rs ts ∧ ts.length = i ∧ TOk 40 ts ∧ Dk p G G') ⟨[], [], upd_same, .nil, rfl, TOk.nil, (Dk.refl dG).new nD⟩ (fun i G' hi hG => ?_) (fun G' hG => ?_)
    · obtain ⟨rs, ts, gD, gT, hl, hok, kG'⟩ := hG
      refine ⟨rfl, yes_ite ?_⟩
      refine ⟨_, rfl, p, 40, rfl, kG'.d, by decide, fun a b t G1 a0 ab b1 kG1 nt => ?_⟩
      have gD1 : G1 D = some (.lst rs) := kG1.lst gD nDp
      have gD2 : upd G1 t (.tup [.int a, .int b]) D = some (.lst rs) := by rw [upd_ne (ne_of_none gD1 nt)]; exact gD1
      refine ⟨rs, gD2, ?_, rs ++ [.ref t], ts ++ [(a, b)], upd_same, ((((gT.dk kG1 kG'.d).new nt).append (Ties.one upd_same)).put gD2), by rw [List.length_append, hl]; rfl, hok.append (TOk.one a0 ab b1), ((kG'.trans kG1).new nt).over dG nD⟩
      rw [gT.length, hl]
      omega
    · obtain ⟨rs, ts, gD, gT, hl, hok, kG'⟩ := hG
      refine ⟨D, rs, rfl, .inl ⟨sqL_of gD, fun l nl => ?_⟩⟩
      refine ⟨by show 2 ≤ sizeLine; decide, fun v nv => ?_⟩
      have kv := (kG'.new nl (o := .tup rs)).new nv (o := .tup [.int 40, .ref l])
      refine ⟨_, rfl, _, rfl, p, .ref v, 40, ts, rfl, kv.d, ⟨v, l, rs, rfl, upd_same, tup_new nv upd_same, (gT.new nl).new nv⟩, hok, by decide, by decide, by omega, hT0.dk (kG.trans kv), fun G2 k2 => q _⟩
end FF
namespace FF
open PySem PySem.Spec PyProof.Rows L2
def exK (K : PySem.W.Frag) : Bool := (xfs.all fun f => f.ok K)
/-! ### the head -/
def d_is_number : He.DefD := ⟨("is_number", none), "is_number", "is_number", defArgs s_is_number, defBody s_is_number, defScope s_is_number, [], []⟩
def d_leader_of : He.DefD := ⟨("leader_of", none), "leader_of", "leader_of", defArgs s_leader_of, defBody s_leader_of, defScope s_leader_of, [], []⟩
def d_join_points : He.DefD := ⟨("join_points", none), "join_points", "join_points", defArgs s_join_points, defBody s_join_points, defScope s_join_points, [], []⟩
def d_check : He.DefD := ⟨("check", none), "check", "check", defArgs s_check, defBody s_check, defScope s_check, [], []⟩
def d_is_tie : He.DefD := ⟨("is_tie", none), "is_tie", "is_tie", defArgs s_is_tie, defBody s_is_tie, defScope s_is_tie, [], []⟩
def d_ringless : He.DefD := ⟨("ringless", none), "ringless", "ringless", defArgs s_ringless, defBody s_ringless, defScope s_ringless, [], []⟩
def d_renamed_web : He.DefD := ⟨("renamed_web", none), "renamed_web", "renamed_web", defArgs s_renamed_web, defBody s_renamed_web, defScope s_renamed_web, [], []⟩
def d_led_laying : He.DefD := ⟨("led_laying", none), "led_laying", "led_laying", defArgs s_led_laying, defBody s_led_laying, defScope s_led_laying, [], []⟩
def d_tie_of : He.DefD := ⟨("tie_of", none), "tie_of", "tie_of", defArgs s_tie_of, defBody s_tie_of, defScope s_tie_of, [], []⟩
def d_right_laying : He.DefD := ⟨("right_laying", none), "right_laying", "right_laying", defArgs s_right_laying, defBody s_right_laying, defScope s_right_laying, [], []⟩
def d_ties_by_forest : He.DefD := ⟨("ties_by_forest", none), "ties_by_forest", "ties_by_forest", defArgs s_ties_by_forest, defBody s_ties_by_forest, defScope s_ties_by_forest, [], []⟩
def d_law_mixed : He.DefD := ⟨("_law_mixed", none), "_law_mixed", "_law_mixed", defArgs s_law_mixed, defBody s_law_mixed, defScope s_law_mixed, [], []⟩
def d_law_deck : He.DefD := ⟨("_law_deck", none), "_law_deck", "_law_deck", defArgs s_law_deck, defBody s_law_deck, defScope s_law_deck, [], []⟩
def d_law_next : He.DefD := ⟨("_law_next", none), "_law_next", "_law_next", defArgs s_law_next, defBody s_law_next, defScope s_law_next, [], []⟩
def d_law_tie : He.DefD := ⟨("_law_tie", none), "_law_tie", "_law_tie", defArgs s_law_tie, defBody s_law_tie, defScope s_law_tie, [], []⟩
def d_law_any_web : He.DefD := ⟨("_law_any_web", none), "_law_any_web", "_law_any_web", defArgs s_law_any_web, defBody s_law_any_web, defScope s_law_any_web, [], []⟩
def d_law_round : He.DefD := ⟨("_law_round", none), "_law_round", "_law_round", defArgs s_law_round, defBody s_law_round, defScope s_law_round, [], []⟩
def d_law_full : He.DefD := ⟨("_law_full", none), "_law_full", "_law_full", defArgs s_law_full, defBody s_law_full, defScope s_law_full, [], []⟩
def d_law_tree : He.DefD := ⟨("_law_tree", none), "_law_tree", "_law_tree", defArgs s_law_tree, defBody s_law_tree, defScope s_law_tree, [], []⟩
def d_law_web : He.DefD := ⟨("_law_web", none), "_law_web", "_law_web", defArgs s_law_web, defBody s_law_web, defScope s_law_web, [], []⟩
def d_law_heads : He.DefD := ⟨("_law_heads", none), "_law_heads", "_law_heads", defArgs s_law_heads, defBody s_law_heads, defScope s_law_heads, [], []⟩
def d_law_is_forest : He.DefD := ⟨("_law_is_forest", none), "_law_is_forest", "_law_is_forest", defArgs s_law_is_forest, defBody s_law_is_forest, defScope s_law_is_forest, [], []⟩
def d_law_laying : He.DefD := ⟨("_law_laying", none), "_law_laying", "_law_laying", defArgs s_law_laying, defBody s_law_laying, defScope s_law_laying, [], []⟩
def d_law_names : He.DefD := ⟨("_law_names", none), "_law_names", "_law_names", defArgs s_law_names, defBody s_law_names, defScope s_law_names, [], []⟩
def d_law_order_of : He.DefD := ⟨("_law_order_of", none), "_law_order_of", "_law_order_of", defArgs s_law_order_of, defBody s_law_order_of, defScope s_law_order_of, [], []⟩
def d_law_renamed : He.DefD := ⟨("_law_renamed", none), "_law_renamed", "_law_renamed", defArgs s_law_renamed, defBody s_law_renamed, defScope s_law_renamed, [], []⟩
def d_law_back : He.DefD := ⟨("_law_back", none), "_law_back", "_law_back", defArgs s_law_back, defBody s_law_back, defScope s_law_back, [], []⟩
def d_law_good : He.DefD := ⟨("_law_good", none), "_law_good", "_law_good", defArgs s_law_good, defBody s_law_good, defScope s_law_good, [], []⟩
def d_law_led : He.DefD := ⟨("_law_led", none), "_law_led", "_law_led", defArgs s_law_led, defBody s_law_led, defScope s_law_led, [], []⟩
def d_law : He.DefD := ⟨("law", none), "law", "law", defArgs s_law, defBody s_law, defScope s_law, [], []⟩
def fn : List He.DefD := [d_is_number, d_leader_of, d_join_points, d_check, d_is_tie, d_ringless, d_renamed_web, d_led_laying, d_tie_of, d_right_laying, d_ties_by_forest, d_law_mixed, d_law_deck, d_law_next, d_law_tie, d_law_any_web, d_law_round, d_law_full, d_law_tree, d_law_web, d_law_heads, d_law_is_forest, d_law_laying, d_law_names, d_law_order_of, d_law_renamed, d_law_back, d_law_good, d_law_led, d_law]
def fa : List He.Fa := [.glo "is_number", .glo "leader_of", .glo "join_points", .glo "check", .glo "is_tie", .glo "ringless", .glo "renamed_web", .glo "led_laying", .glo "tie_of", .glo "right_laying", .glo "ties_by_forest", .glo "_law_mixed", .glo "_law_deck", .glo "_law_next", .glo "_law_tie", .glo "_law_any_web", .glo "_law_round", .glo "_law_full", .glo "_law_tree", .glo "_law_web", .glo "_law_heads", .glo "_law_is_forest", .glo "_law_laying", .glo "_law_names", .glo "_law_order_of", .glo "_law_renamed", .glo "_law_back", .glo "_law_good", .glo "_law_led", .glo "law", .free "ValueError", .free "all", .free "bool", .free "enumerate", .free "int", .free "isinstance", .free "len", .free "list", .free "max", .free "min", .free "range", .free "reversed", .free "set", .free "str", .free "tuple", .int "MOST_POINTS" 40, .int "MOST_TIES" 120]
def tf : List He.Defn := [("check", none), ("renamed_web", none), ("led_laying", none), ("right_laying", none)]
abbrev R : PySem.W.OpenRow := PySem.W.OpenLaw.row PySem.Challenge.rw_fewforests_k74_renamed_and_led
abbrev hk : PySem.W.Hook := He.hookX 4 fa fn [] tf exK
def ob (s : PySem.W.SharedT) : He.AlX := He.obsX 4 fa fn [] tf exK (HandSHeadRun.getT s)
theorem ob_eq (s : PySem.W.SharedT) : ob s = hk.obs s.abs := He.obsX_eq (HandSHeadRun.getT_eq s)
def loose : List PySem.Str := "is_number" :: "leader_of" :: "join_points" :: "check" :: "is_tie" :: "ringless" :: "renamed_web" :: "led_laying" :: "tie_of" :: "right_laying" :: "ties_by_forest" :: "_law_mixed" :: "_law_deck" :: "_law_next" :: "_law_tie" :: "_law_any_web" :: "_law_round" :: "_law_full" :: "_law_tree" :: "_law_web" :: "_law_heads" :: "_law_is_forest" :: "_law_laying" :: "_law_names" :: "_law_order_of" :: "_law_renamed" :: "_law_back" :: "_law_good" :: "_law_led" :: "MOST_POINTS" :: "MOST_TIES" :: "WebsError" :: "NoWeb" :: []
theorem run (w : World) : HandSHeadRun.RunEq R (PySem.W.view R.prog [39]) hk ob 3000 loose w := by
  intro os
  kernel_rfl
theorem lawAt {w : World} {K : PySem.W.Frag} {h : Heap} {mg : Str → Option Value} {f : Addr} (X : K.In h) (G : h.Ns mainGlobals mg) (hfa : mg ("law" : Str) = some (.ref f)) (c : He.SaysX fa fn [] tf exK w h K) :
    LawAtG PySem.Challenge.rw_fewforests_k74_renamed_and_led w K 10 63 "_law_script" mg f h := by
  have cd : He.SaysD fa fn K := c.t.d
  letI LI : LT := ⟨fun _ => false⟩
  have XC : Xcs xfs K mg := Xcs.mk' X G c.more
  obtain ⟨fd_is_number, F_is_number⟩ := cd.def_ 0 (d := d_is_number) rfl
  have g_is_number := He.glo_ok X G (cd.fact 0 (f := .glo "is_number") rfl)
  have D_is_number : DefAt K mg "is_number" s_is_number ["thing", "least", "most"] _ fd_is_number := ⟨F_is_number, g_is_number, FunD.bindsN F_is_number fun _ _ _ _ _ _ us hl => match us, hl with | [_, _, _], _ => rfl⟩
  obtain ⟨fd_leader_of, F_leader_of⟩ := cd.def_ 1 (d := d_leader_of) rfl
  have g_leader_of := He.glo_ok X G (cd.fact 1 (f := .glo "leader_of") rfl)
  have D_leader_of : DefAt K mg "leader_of" s_leader_of ["leaders", "point"] _ fd_leader_of := ⟨F_leader_of, g_leader_of, FunD.bindsN F_leader_of fun _ _ _ _ _ _ us hl => match us, hl with | [_, _], _ => rfl⟩
  obtain ⟨fd_join_points, F_join_points⟩ := cd.def_ 2 (d := d_join_points) rfl
  have g_join_points := He.glo_ok X G (cd.fact 2 (f := .glo "join_points") rfl)
  have D_join_points : DefAt K mg "join_points" s_join_points ["leaders", "a", "b"] _ fd_join_points := ⟨F_join_points, g_join_points, FunD.bindsN F_join_points fun _ _ _ _ _ _ us hl => match us, hl with | [_, _, _], _ => rfl⟩
  obtain ⟨fd_check, F_check⟩ := cd.def_ 3 (d := d_check) rfl
  have g_check := He.glo_ok X G (cd.fact 3 (f := .glo "check") rfl)
  have D_check : DefAt K mg "check" s_check ["thing"] _ fd_check := ⟨F_check, g_check, FunD.bindsN F_check fun _ _ _ _ _ _ us hl => match us, hl with | [_], _ => rfl⟩
  obtain ⟨fd_is_tie, F_is_tie⟩ := cd.def_ 4 (d := d_is_tie) rfl
  have g_is_tie := He.glo_ok X G (cd.fact 4 (f := .glo "is_tie") rfl)
  have D_is_tie : DefAt K mg "is_tie" s_is_tie ["points", "thing"] _ fd_is_tie := ⟨F_is_tie, g_is_tie, FunD.bindsN F_is_tie fun _ _ _ _ _ _ us hl => match us, hl with | [_, _], _ => rfl⟩
  obtain ⟨fd_ringless, F_ringless⟩ := cd.def_ 5 (d := d_ringless) rfl
  have g_ringless := He.glo_ok X G (cd.fact 5 (f := .glo "ringless") rfl)
  have D_ringless : DefAt K mg "ringless" s_ringless ["web", "ties"] _ fd_ringless := ⟨F_ringless, g_ringless, FunD.bindsN F_ringless fun _ _ _ _ _ _ us hl => match us, hl with | [_, _], _ => rfl⟩
  obtain ⟨fd_renamed_web, F_renamed_web⟩ := cd.def_ 6 (d := d_renamed_web) rfl
  have g_renamed_web := He.glo_ok X G (cd.fact 6 (f := .glo "renamed_web") rfl)
  have D_renamed_web : DefAt K mg "renamed_web" s_renamed_web ["web", "names", "order"] _ fd_renamed_web := ⟨F_renamed_web, g_renamed_web, FunD.bindsN F_renamed_web fun _ _ _ _ _ _ us hl => match us, hl with | [_, _, _], _ => rfl⟩
  obtain ⟨fd_led_laying, F_led_laying⟩ := cd.def_ 7 (d := d_led_laying) rfl
  have g_led_laying := He.glo_ok X G (cd.fact 7 (f := .glo "led_laying") rfl)
  have D_led_laying : DefAt K mg "led_laying" s_led_laying ["laying", "order"] _ fd_led_laying := ⟨F_led_laying, g_led_laying, FunD.bindsN F_led_laying fun _ _ _ _ _ _ us hl => match us, hl with | [_, _], _ => rfl⟩
  obtain ⟨fd_tie_of, F_tie_of⟩ := cd.def_ 8 (d := d_tie_of) rfl
  have g_tie_of := He.glo_ok X G (cd.fact 8 (f := .glo "tie_of") rfl)
  have D_tie_of : DefAt K mg "tie_of" s_tie_of ["a", "b"] _ fd_tie_of := ⟨F_tie_of, g_tie_of, FunD.bindsN F_tie_of fun _ _ _ _ _ _ us hl => match us, hl with | [_, _], _ => rfl⟩
  obtain ⟨fd_right_laying, F_right_laying⟩ := cd.def_ 9 (d := d_right_laying) rfl
  have g_right_laying := He.glo_ok X G (cd.fact 9 (f := .glo "right_laying") rfl)
  have D_right_laying : DefAt K mg "right_laying" s_right_laying ["web", "k", "thing"] _ fd_right_laying := ⟨F_right_laying, g_right_laying, FunD.bindsN F_right_laying fun _ _ _ _ _ _ us hl => match us, hl with | [_, _, _], _ => rfl⟩
  obtain ⟨fd_ties_by_forest, F_ties_by_forest⟩ := cd.def_ 10 (d := d_ties_by_forest) rfl
  have g_ties_by_forest := He.glo_ok X G (cd.fact 10 (f := .glo "ties_by_forest") rfl)
  have D_ties_by_forest : DefAt K mg "ties_by_forest" s_ties_by_forest ["laying"] _ fd_ties_by_forest := ⟨F_ties_by_forest, g_ties_by_forest, FunD.bindsN F_ties_by_forest fun _ _ _ _ _ _ us hl => match us, hl with | [_], _ => rfl⟩
  obtain ⟨fd__law_mixed, F__law_mixed⟩ := cd.def_ 11 (d := d_law_mixed) rfl
  have g__law_mixed := He.glo_ok X G (cd.fact 11 (f := .glo "_law_mixed") rfl)
  have D__law_mixed : DefAt K mg "_law_mixed" s_law_mixed ["_law_cell", "_law_k"] _ fd__law_mixed := ⟨F__law_mixed, g__law_mixed, FunD.bindsN F__law_mixed fun _ _ _ _ _ _ us hl => match us, hl with | [_, _], _ => rfl⟩
  obtain ⟨fd__law_deck, F__law_deck⟩ := cd.def_ 12 (d := d_law_deck) rfl
  have g__law_deck := He.glo_ok X G (cd.fact 12 (f := .glo "_law_deck") rfl)
  have D__law_deck : DefAt K mg "_law_deck" s_law_deck ["_law_script", "_law_many"] _ fd__law_deck := ⟨F__law_deck, g__law_deck, FunD.bindsN F__law_deck fun _ _ _ _ _ _ us hl => match us, hl with | [_, _], _ => rfl⟩
  obtain ⟨fd__law_next, F__law_next⟩ := cd.def_ 13 (d := d_law_next) rfl
  have g__law_next := He.glo_ok X G (cd.fact 13 (f := .glo "_law_next") rfl)
  have D__law_next : DefAt K mg "_law_next" s_law_next ["_law_deck_here"] _ fd__law_next := ⟨F__law_next, g__law_next, FunD.bindsN F__law_next fun _ _ _ _ _ _ us hl => match us, hl with | [_], _ => rfl⟩
  obtain ⟨fd__law_tie, F__law_tie⟩ := cd.def_ 14 (d := d_law_tie) rfl
  have g__law_tie := He.glo_ok X G (cd.fact 14 (f := .glo "_law_tie") rfl)
  have D__law_tie : DefAt K mg "_law_tie" s_law_tie ["_law_deck_here", "_law_points"] _ fd__law_tie := ⟨F__law_tie, g__law_tie, FunD.bindsN F__law_tie fun _ _ _ _ _ _ us hl => match us, hl with | [_, _], _ => rfl⟩
  obtain ⟨fd__law_any_web, F__law_any_web⟩ := cd.def_ 15 (d := d_law_any_web) rfl
  have g__law_any_web := He.glo_ok X G (cd.fact 15 (f := .glo "_law_any_web") rfl)
  have D__law_any_web : DefAt K mg "_law_any_web" s_law_any_web ["_law_deck_here", "_law_points", "_law_most"] _ fd__law_any_web := ⟨F__law_any_web, g__law_any_web, FunD.bindsN F__law_any_web fun _ _ _ _ _ _ us hl => match us, hl with | [_, _, _], _ => rfl⟩
  obtain ⟨fd__law_round, F__law_round⟩ := cd.def_ 16 (d := d_law_round) rfl
  have g__law_round := He.glo_ok X G (cd.fact 16 (f := .glo "_law_round") rfl)
  have D__law_round : DefAt K mg "_law_round" s_law_round ["_law_points"] _ fd__law_round := ⟨F__law_round, g__law_round, FunD.bindsN F__law_round fun _ _ _ _ _ _ us hl => match us, hl with | [_], _ => rfl⟩
  obtain ⟨fd__law_full, F__law_full⟩ := cd.def_ 17 (d := d_law_full) rfl
  have g__law_full := He.glo_ok X G (cd.fact 17 (f := .glo "_law_full") rfl)
  have D__law_full : DefAt K mg "_law_full" s_law_full ["_law_points"] _ fd__law_full := ⟨F__law_full, g__law_full, FunD.bindsN F__law_full fun _ _ _ _ _ _ us hl => match us, hl with | [_], _ => rfl⟩
  obtain ⟨fd__law_tree, F__law_tree⟩ := cd.def_ 18 (d := d_law_tree) rfl
  have g__law_tree := He.glo_ok X G (cd.fact 18 (f := .glo "_law_tree") rfl)
  have D__law_tree : DefAt K mg "_law_tree" s_law_tree ["_law_deck_here", "_law_points"] _ fd__law_tree := ⟨F__law_tree, g__law_tree, FunD.bindsN F__law_tree fun _ _ _ _ _ _ us hl => match us, hl with | [_, _], _ => rfl⟩
  obtain ⟨fd__law_web, F__law_web⟩ := cd.def_ 19 (d := d_law_web) rfl
  have g__law_web := He.glo_ok X G (cd.fact 19 (f := .glo "_law_web") rfl)
  have D__law_web : DefAt K mg "_law_web" s_law_web ["_law_deck_here", "_law_points", "_law_most"] _ fd__law_web := ⟨F__law_web, g__law_web, FunD.bindsN F__law_web fun _ _ _ _ _ _ us hl => match us, hl with | [_, _, _], _ => rfl⟩
  obtain ⟨fd__law_heads, F__law_heads⟩ := cd.def_ 20 (d := d_law_heads) rfl
  have g__law_heads := He.glo_ok X G (cd.fact 20 (f := .glo "_law_heads") rfl)
  have D__law_heads : DefAt K mg "_law_heads" s_law_heads ["_law_points", "_law_ties"] _ fd__law_heads := ⟨F__law_heads, g__law_heads, FunD.bindsN F__law_heads fun _ _ _ _ _ _ us hl => match us, hl with | [_, _], _ => rfl⟩
  obtain ⟨fd__law_is_forest, F__law_is_forest⟩ := cd.def_ 21 (d := d_law_is_forest) rfl
  have g__law_is_forest := He.glo_ok X G (cd.fact 21 (f := .glo "_law_is_forest") rfl)
  have D__law_is_forest : DefAt K mg "_law_is_forest" s_law_is_forest ["_law_points", "_law_ties"] _ fd__law_is_forest := ⟨F__law_is_forest, g__law_is_forest, FunD.bindsN F__law_is_forest fun _ _ _ _ _ _ us hl => match us, hl with | [_, _], _ => rfl⟩
  obtain ⟨fd__law_laying, F__law_laying⟩ := cd.def_ 22 (d := d_law_laying) rfl
  have g__law_laying := He.glo_ok X G (cd.fact 22 (f := .glo "_law_laying") rfl)
  have D__law_laying : DefAt K mg "_law_laying" s_law_laying ["_law_deck_here", "_law_web_here"] _ fd__law_laying := ⟨F__law_laying, g__law_laying, FunD.bindsN F__law_laying fun _ _ _ _ _ _ us hl => match us, hl with | [_, _], _ => rfl⟩
  obtain ⟨fd__law_names, F__law_names⟩ := cd.def_ 23 (d := d_law_names) rfl
  have g__law_names := He.glo_ok X G (cd.fact 23 (f := .glo "_law_names") rfl)
  have D__law_names : DefAt K mg "_law_names" s_law_names ["_law_deck_here", "_law_points"] _ fd__law_names := ⟨F__law_names, g__law_names, FunD.bindsN F__law_names fun _ _ _ _ _ _ us hl => match us, hl with | [_, _], _ => rfl⟩
  obtain ⟨fd__law_order_of, F__law_order_of⟩ := cd.def_ 24 (d := d_law_order_of) rfl
  have g__law_order_of := He.glo_ok X G (cd.fact 24 (f := .glo "_law_order_of") rfl)
  have D__law_order_of : DefAt K mg "_law_order_of" s_law_order_of ["_law_deck_here", "_law_many"] _ fd__law_order_of := ⟨F__law_order_of, g__law_order_of, FunD.bindsN F__law_order_of fun _ _ _ _ _ _ us hl => match us, hl with | [_, _], _ => rfl⟩
  obtain ⟨fd__law_renamed, F__law_renamed⟩ := cd.def_ 25 (d := d_law_renamed) rfl
  have g__law_renamed := He.glo_ok X G (cd.fact 25 (f := .glo "_law_renamed") rfl)
  have D__law_renamed : DefAt K mg "_law_renamed" s_law_renamed ["_law_web_here", "_law_names_here", "_law_order"] _ fd__law_renamed := ⟨F__law_renamed, g__law_renamed, FunD.bindsN F__law_renamed fun _ _ _ _ _ _ us hl => match us, hl with | [_, _, _], _ => rfl⟩
  obtain ⟨fd__law_back, F__law_back⟩ := cd.def_ 26 (d := d_law_back) rfl
  have g__law_back := He.glo_ok X G (cd.fact 26 (f := .glo "_law_back") rfl)
  have D__law_back : DefAt K mg "_law_back" s_law_back ["_law_row"] _ fd__law_back := ⟨F__law_back, g__law_back, FunD.bindsN F__law_back fun _ _ _ _ _ _ us hl => match us, hl with | [_], _ => rfl⟩
  obtain ⟨fd__law_good, F__law_good⟩ := cd.def_ 27 (d := d_law_good) rfl
  have g__law_good := He.glo_ok X G (cd.fact 27 (f := .glo "_law_good") rfl)
  have D__law_good : DefAt K mg "_law_good" s_law_good ["_law_deck_here", "_law_web_here"] _ fd__law_good := ⟨F__law_good, g__law_good, FunD.bindsN F__law_good fun _ _ _ _ _ _ us hl => match us, hl with | [_, _], _ => rfl⟩
  obtain ⟨fd__law_led, F__law_led⟩ := cd.def_ 28 (d := d_law_led) rfl
  have g__law_led := He.glo_ok X G (cd.fact 28 (f := .glo "_law_led") rfl)
  have D__law_led : DefAt K mg "_law_led" s_law_led ["_law_deck_here", "_law_web_here"] _ fd__law_led := ⟨F__law_led, g__law_led, FunD.bindsN F__law_led fun _ _ _ _ _ _ us hl => match us, hl with | [_, _], _ => rfl⟩
  obtain ⟨fd_law, F_law⟩ := cd.def_ 29 (d := d_law) rfl
  have g_law := He.glo_ok X G (cd.fact 29 (f := .glo "law") rfl)
  have D_law : DefAt K mg "law" s_law ["_law_script"] _ fd_law := ⟨F_law, g_law, FunD.bindsN F_law fun _ _ _ _ _ _ us hl => match us, hl with | [_], _ => rfl⟩
  have T : Blt mg := ⟨He.free_ok X G (cd.fact 30 (f := .free "ValueError") rfl), He.free_ok X G (cd.fact 31 (f := .free "all") rfl), He.free_ok X G (cd.fact 32 (f := .free "bool") rfl), He.free_ok X G (cd.fact 33 (f := .free "enumerate") rfl), He.free_ok X G (cd.fact 34 (f := .free "int") rfl), He.free_ok X G (cd.fact 35 (f := .free "isinstance") rfl), He.free_ok X G (cd.fact 36 (f := .free "len") rfl), He.free_ok X G (cd.fact 37 (f := .free "list") rfl), He.free_ok X G (cd.fact 38 (f := .free "max") rfl), He.free_ok X G (cd.fact 39 (f := .free "min") rfl), He.free_ok X G (cd.fact 40 (f := .free "range") rfl), He.free_ok X G (cd.fact 41 (f := .free "reversed") rfl), He.free_ok X G (cd.fact 42 (f := .free "set") rfl), He.free_ok X G (cd.fact 43 (f := .free "str") rfl), He.free_ok X G (cd.fact 44 (f := .free "tuple") rfl), He.int_ok X G (cd.fact 45 (f := .int "MOST_POINTS" 40) rfl), He.int_ok X G (cd.fact 46 (f := .int "MOST_TIES" 120) rfl)⟩
  cases hfa.symm.trans g_law
  obtain ⟨cc_check, hcd_check⟩ := code_at F_check
  obtain ⟨cc_renamed_web, hcd_renamed_web⟩ := code_at F_renamed_web
  obtain ⟨cc_led_laying, hcd_led_laying⟩ := code_at F_led_laying
  obtain ⟨cc_right_laying, hcd_right_laying⟩ := code_at F_right_laying
  have bl := FunD.bindsA (ps := ["_law_script"]) F_law fun _ _ _ _ _ _ us hl => match us, hl with | [_], _ => rfl
  refine ⟨fd_law, tf.map (He.cT K), sp_law K (tf.map fun p => (He.cT K p).2), fun p hp => ?_, fun p hp => ?_, fun p hp => ?_, fun s v => bl s [v] rfl, fun H a ns hl hbits hH hS => ?_, fun base KB GB hTB => ?_⟩
  · obtain ⟨d, hd, rfl⟩ := List.mem_map.mp hp
    exact c.empty d hd
  · obtain ⟨d, hd, rfl⟩ := List.mem_map.mp hp
    exact c.out d hd
  · obtain ⟨d, hd, rfl⟩ := List.mem_map.mp hp
    exact PySem.W.codeHd_of_K X (c.hd d hd)
  · exact law_start hl hbits (fun P hP => by
      obtain ⟨d, hd, rfl⟩ := List.mem_map.mp hP
      exact ⟨#[], hH _ (List.mem_map.mpr ⟨d, hd, rfl⟩), trivial, rfl⟩) hS
  · have G_is_number := ok_is_number (P := PySem.Challenge.rw_fewforests_k74_renamed_and_led.prog) (w := w) (base := base) (tb := tf.map fun p => (He.cT K p).2) T D_is_number XC
    have G_leader_of := ok_leader_of (P := PySem.Challenge.rw_fewforests_k74_renamed_and_led.prog) (w := w) (base := base) (tb := tf.map fun p => (He.cT K p).2) T D_leader_of XC
    have G_join_points := ok_join_points (P := PySem.Challenge.rw_fewforests_k74_renamed_and_led.prog) (w := w) (base := base) (tb := tf.map fun p => (He.cT K p).2) T D_join_points XC D_leader_of G_leader_of
    have G_is_tie := ok_is_tie (P := PySem.Challenge.rw_fewforests_k74_renamed_and_led.prog) (w := w) (base := base) (tb := tf.map fun p => (He.cT K p).2) T D_is_tie XC D_is_number G_is_number
    have G_check := ok_check (P := PySem.Challenge.rw_fewforests_k74_renamed_and_led.prog) (w := w) (base := base) (tb := tf.map fun p => (He.cT K p).2) T D_check XC D_is_number G_is_number D_is_tie G_is_tie (hTB (He.cT K ("check", none)) (List.mem_map.mpr ⟨("check", none), by decide, rfl⟩)) (code_is F_check hcd_check) (List.mem_map.mpr ⟨("check", none), by decide, rfl⟩)
    have G_ringless := ok_ringless (P := PySem.Challenge.rw_fewforests_k74_renamed_and_led.prog) (w := w) (base := base) (tb := tf.map fun p => (He.cT K p).2) T D_ringless XC D_join_points G_join_points
    have G_tie_of := ok_tie_of (P := PySem.Challenge.rw_fewforests_k74_renamed_and_led.prog) (w := w) (base := base) (tb := tf.map fun p => (He.cT K p).2) T D_tie_of XC
    have G_renamed_web := ok_renamed_web (P := PySem.Challenge.rw_fewforests_k74_renamed_and_led.prog) (w := w) (base := base) (tb := tf.map fun p => (He.cT K p).2) T D_renamed_web XC D_tie_of G_tie_of (hTB (He.cT K ("renamed_web", none)) (List.mem_map.mpr ⟨("renamed_web", none), by decide, rfl⟩)) (code_is F_renamed_web hcd_renamed_web) (List.mem_map.mpr ⟨("renamed_web", none), by decide, rfl⟩)
    have G_led_laying := ok_led_laying (P := PySem.Challenge.rw_fewforests_k74_renamed_and_led.prog) (w := w) (base := base) (tb := tf.map fun p => (He.cT K p).2) T D_led_laying XC (hTB (He.cT K ("led_laying", none)) (List.mem_map.mpr ⟨("led_laying", none), by decide, rfl⟩)) (code_is F_led_laying hcd_led_laying) (List.mem_map.mpr ⟨("led_laying", none), by decide, rfl⟩)
    have G_ties_by_forest := ok_ties_by_forest (P := PySem.Challenge.rw_fewforests_k74_renamed_and_led.prog) (w := w) (base := base) (tb := tf.map fun p => (He.cT K p).2) T D_ties_by_forest XC
    have G_right_laying := ok_right_laying (P := PySem.Challenge.rw_fewforests_k74_renamed_and_led.prog) (w := w) (base := base) (tb := tf.map fun p => (He.cT K p).2) T D_right_laying XC D_is_number G_is_number D_ringless G_ringless D_ties_by_forest G_ties_by_forest (hTB (He.cT K ("right_laying", none)) (List.mem_map.mpr ⟨("right_laying", none), by decide, rfl⟩)) (code_is F_right_laying hcd_right_laying) (List.mem_map.mpr ⟨("right_laying", none), by decide, rfl⟩)
    have G__law_mixed := ok__law_mixed (P := PySem.Challenge.rw_fewforests_k74_renamed_and_led.prog) (w := w) (base := base) (tb := tf.map fun p => (He.cT K p).2) T D__law_mixed XC
    have G__law_deck := ok__law_deck (P := PySem.Challenge.rw_fewforests_k74_renamed_and_led.prog) (w := w) (base := base) (tb := tf.map fun p => (He.cT K p).2) T D__law_deck XC D__law_mixed G__law_mixed
    have G__law_next := ok__law_next (P := PySem.Challenge.rw_fewforests_k74_renamed_and_led.prog) (w := w) (base := base) (tb := tf.map fun p => (He.cT K p).2) T D__law_next XC
    have G__law_tie := ok__law_tie (P := PySem.Challenge.rw_fewforests_k74_renamed_and_led.prog) (w := w) (base := base) (tb := tf.map fun p => (He.cT K p).2) T D__law_tie XC D__law_next G__law_next
    have G__law_any_web := ok__law_any_web (P := PySem.Challenge.rw_fewforests_k74_renamed_and_led.prog) (w := w) (base := base) (tb := tf.map fun p => (He.cT K p).2) T D__law_any_web XC D__law_next G__law_next D__law_tie G__law_tie
    have G__law_round := ok__law_round (P := PySem.Challenge.rw_fewforests_k74_renamed_and_led.prog) (w := w) (base := base) (tb := tf.map fun p => (He.cT K p).2) T D__law_round XC
    have G__law_full := ok__law_full (P := PySem.Challenge.rw_fewforests_k74_renamed_and_led.prog) (w := w) (base := base) (tb := tf.map fun p => (He.cT K p).2) T D__law_full XC
    have G__law_tree := ok__law_tree (P := PySem.Challenge.rw_fewforests_k74_renamed_and_led.prog) (w := w) (base := base) (tb := tf.map fun p => (He.cT K p).2) T D__law_tree XC D__law_next G__law_next
    have G__law_web := ok__law_web (P := PySem.Challenge.rw_fewforests_k74_renamed_and_led.prog) (w := w) (base := base) (tb := tf.map fun p => (He.cT K p).2) T D__law_web XC D__law_next G__law_next D__law_any_web G__law_any_web D__law_round G__law_round D__law_full G__law_full D__law_tree G__law_tree
    have G__law_heads := ok__law_heads (P := PySem.Challenge.rw_fewforests_k74_renamed_and_led.prog) (w := w) (base := base) (tb := tf.map fun p => (He.cT K p).2) T D__law_heads XC
    have G__law_is_forest := ok__law_is_forest (P := PySem.Challenge.rw_fewforests_k74_renamed_and_led.prog) (w := w) (base := base) (tb := tf.map fun p => (He.cT K p).2) T D__law_is_forest XC D__law_heads G__law_heads
    have G__law_laying := ok__law_laying (P := PySem.Challenge.rw_fewforests_k74_renamed_and_led.prog) (w := w) (base := base) (tb := tf.map fun p => (He.cT K p).2) T D__law_laying XC D__law_next G__law_next D__law_is_forest G__law_is_forest
    have G__law_names := ok__law_names (P := PySem.Challenge.rw_fewforests_k74_renamed_and_led.prog) (w := w) (base := base) (tb := tf.map fun p => (He.cT K p).2) T D__law_names XC D__law_next G__law_next
    have G__law_order_of := ok__law_order_of (P := PySem.Challenge.rw_fewforests_k74_renamed_and_led.prog) (w := w) (base := base) (tb := tf.map fun p => (He.cT K p).2) T D__law_order_of XC D__law_next G__law_next
    have G__law_renamed := ok__law_renamed (P := PySem.Challenge.rw_fewforests_k74_renamed_and_led.prog) (w := w) (base := base) (tb := tf.map fun p => (He.cT K p).2) T D__law_renamed XC
    have G__law_back := ok__law_back (P := PySem.Challenge.rw_fewforests_k74_renamed_and_led.prog) (w := w) (base := base) (tb := tf.map fun p => (He.cT K p).2) T D__law_back XC
    have G__law_good := ok__law_good (P := PySem.Challenge.rw_fewforests_k74_renamed_and_led.prog) (w := w) (base := base) (tb := tf.map fun p => (He.cT K p).2) T D__law_good XC D_check G_check D_renamed_web G_renamed_web D__law_names G__law_names D__law_order_of G__law_order_of D__law_renamed G__law_renamed D__law_back G__law_back
    have G__law_led := ok__law_led (P := PySem.Challenge.rw_fewforests_k74_renamed_and_led.prog) (w := w) (base := base) (tb := tf.map fun p => (He.cT K p).2) T D__law_led XC D_renamed_web G_renamed_web D_led_laying G_led_laying D_right_laying G_right_laying D__law_next G__law_next D__law_laying G__law_laying D__law_names G__law_names D__law_order_of G__law_order_of
    have G_law := ok_law (P := PySem.Challenge.rw_fewforests_k74_renamed_and_led.prog) (w := w) (base := base) (tb := tf.map fun p => (He.cT K p).2) T D_law XC D__law_deck G__law_deck D__law_tie G__law_tie D__law_web G__law_web D__law_good G__law_good D__law_led G__law_led
    exact G_law
end FF
open PySem PySem.W PySem.Calls PyProof.Rows
theorem PySem.Challenge.cw_fewforests_k74_renamed_and_led_holds : PySem.Challenge.rw_fewforests_k74_renamed_and_led.Holds := by
  w_on; o_law
  refine HandSHeadRun.head_any (r := OpenLaw.row PySem.Challenge.rw_fewforests_k74_renamed_and_led) (q := view (OpenLaw.row PySem.Challenge.rw_fewforests_k74_renamed_and_led).prog [39]) (H := FF.hk) (ob := FF.ob) (M := 3000) (loose := FF.loose) (d := HandSHeadRun.topDef (OpenLaw.row PySem.Challenge.rw_fewforests_k74_renamed_and_led).prog 39) (kwd := []) FF.ob_eq
    (by kernel_rfl) (fun s => by kernel_rfl) FF.run (by kernel_rfl) (by kernel_rfl) (by kernel_rfl) (by rfl) (by first | assumption | decide +kernel) (by decide +kernel) ⟨rfl, rfl, rfl, rfl, rfl, by decide +kernel⟩ ?hw ?hc
  case hw => w_witness2
  case hc =>
    haveI : FF.LT := ⟨fun _ => false⟩
    refine FF.walk_ofG (l := PySem.Challenge.rw_fewforests_k74_renamed_and_led) (n := 63) (k := 10) (x := "_law_script") rfl (by decide) (by kernel_rfl) ⟨rfl, by decide, by decide⟩ ?F
    intro w mg fa h Y G hmg0
    obtain ⟨K, KX, c⟩ := Y
    have hmg : mg ("law" : PySem.Str) = some (.ref fa) := by
      have e : (HandSHeadRun.topDef (OpenLaw.row PySem.Challenge.rw_fewforests_k74_renamed_and_led).prog 39).name = ("law" : PySem.Str) := by kernel_rfl
      rw [← e]
      exact hmg0
    exact ⟨K, KX, FF.lawAt KX G hmg c⟩
