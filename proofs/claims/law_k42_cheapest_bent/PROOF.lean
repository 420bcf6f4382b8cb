import PyProof.Rows.All
import Wide.All
import OpenK.AllK
import Wide.FinOn
import KE.KStateDown
import Lean
import HandS.ForMost
import HandS.More
import HandS.Conv
import HandS.Flow
import HandS.Style
import HandS.Strs
import HandS.Codes
import HandS.SetFor
import HandS.TupSets
import HandS.SortRule
import HandS.SortInts
import HandS.TupLe
import HandS.TupAny
import HandS.IsInst
import HandS.RevTup
import HandS.Rev
import HandS.Zip
import KE.GoesEnum
import KE.GoesMore
import KE.GoesZip
import KE.KDictZip
import HandS.Walk
import HandS.SetKeys
import HandS.Defaults
import HandS.Wide
import HandS.Lambda
import HandS.GenOver
import HandS.DictComp
import HandS.AnyAll
import HandS.RevRange
import HandS.Head0
import HandS.Head1
import HandS.Head2
import HandS.HeadEnd
import HandS.HeadHook1
import HandS.HeadHook2
import HandS.HeadHook3
import HandS.HeadHook4
import HandS.EndTab
import HandS.HeadWalk
import KE.DatumOrd
import HandS.TupMul
import KE.KTupSum
import HandS.SetBool
import HandS.ExcIs
import HandS.TryMany
import HandS.TryOnly
import HandS.ExcOwn
import HandS.Exc
import KE.SortData
import KE.SortKeyHeap
import HandS.Deep
import HandS.HotCalls
import HandS.SortKw
import PySem.Challenge.RW_fewforests_k42_cheapest_bent
set_option Elab.async false
set_option linter.all false
set_option maxRecDepth 100000
set_option maxHeartbeats 0
namespace FF
open PySem PySem.Spec PyProof.Rows L2
/-- which tables of code objects are those of defs with a lambda (told when the text's end is reached) -/
class LT where
  lam : Addr → Bool
end FF
namespace FF
open PySem PySem.Spec PyProof.Rows L2
variable [LT]
/-! ### list(reversed(xs)) -/
section
variable {prog : Program} {w : World} {A : Around} {E : Value → Shared → Prop} {s : Shared}
theorem extRev {itr src : Addr} {its : Array Value} {R : Result → Shared → Prop} (calm : A.handled = none) (S : Addr) (res : Value) (c0 : Nat)
    (hS : s.heap.get? S = some { cls := .type "list", data := .seq #[] c0 }) (hit : s.heap.IsRevIter itr src ((its.size : Int) - 1)) (hl : s.heap.IsList src its) (hne : src ≠ itr) (hSi : S ≠ itr) (hSl : S ≠ src) (hn : its.size ≤ sizeLine)
    (fin : ∀ h' tk acc c, (∀ b o, b ≠ itr → b ≠ S → s.heap.get? b = some o → h'.get? b = some o) → h'.get? S = some { cls := .type "list", dict := none, data := .seq acc c, slots := #[] } →
      ItemsOf (fun i v => its[its.size - 1 - i]? = some v) acc its.size → R (.ok (.ret res)) { s with heap := h', toks := tk }) :
    wpAny (model prog w) A.in1 (Builtin.List.listExtendWith (.ref S) (.ref itr) res)
      (fun f s' => match f with | .done z => R (.ok z) s' | .again c' => c'.quiet = true ∧ codeAny (model prog w) A c' R s') (fun e s' => R (.error e) s') s := by
  have W := (Walks.listRev (prog := prog) (w := w) (A := A.in1) calm itr src hne its).toS
  have hT : s.TypeIs (.ref itr) "list_reverseiterator" := hit.typeIs
  have h1 : Builtin.List.listSameRef (.ref S) (.ref itr) = false := by simp [Builtin.List.listSameRef, hSi]
  unfold Builtin.List.listExtendWith
  refine wpAny_bind (wpAny_typeOf hT ?_)
  rw [if_neg (by rw [h1]; decide)]
  refine wpAny_bind (wpAny_pyIter_revIter hit ?_)
  refine wpAny_bind (wpAny_holding ?_)
  unfold Builtin.List.listLengthHint
  refine wpAny_bind (wpAny_specialOf hT RT.nolen_lri ?_)
  show wpAny _ A.in1 (specialOf (Value.ref itr) (Str.ofString "__length_hint__") >>= _) _ _ _
  refine wpAny_bind (wpAny_specialOf hT RT.hint_lri ?_)
  generalize hid : ("list_reverseiterator.__length_hint__" : String) = hint
  wp_delta
  rw [show splitId hint = some ("list_reverseiterator", "__length_hint__") from by subst hid; decide +kernel]
  subst hid
  refine wpAny_bind (wpAny_isInstance (b := true) hT (by rw [isSubtype_type]; kernel_rfl) ?_)
  refine wpAny_pure ?_
  rw [if_neg (by decide)]
  have e0 : ((its.size : Nat) : Int) - 1 - ((0 : Nat) : Int) = (its.size : Int) - 1 := by omega
  have hSf : S ∉ [itr, src] := by simp only [List.mem_cons, List.not_mem_nil, or_false, not_or]; exact ⟨hSi, hSl⟩
  refine wpAny_pure ⟨plainId_quiet F.plain_extend_loop _, codeAny_extend_loopS W hn S hSf _ its.size 0 _ _ _ rfl (Nat.zero_le _) ⟨Nat.zero_le _, by rw [e0]; exact hit, hl⟩ hS (ItemsOf.nil _) fun s' acc c hm hS' hacc => ?_⟩
  rw [Moved.eq_with hm]
  refine fin s'.heap s'.toks acc c (fun b o hb hb2 e => hm.heap b o (fun z => ?_) e) hS' hacc
  rcases List.mem_cons.mp z with z | z
  · exact hb2 z
  · exact hb (List.mem_singleton.mp z)
theorem initRev {itr src : Addr} {its : Array Value} {R : Result → Shared → Prop} (calm : A.handled = none) (S : Addr)
    (hS : s.heap.get? S = some { cls := .type "list", data := .seq #[] }) (hit : s.heap.IsRevIter itr src ((its.size : Int) - 1)) (hl : s.heap.IsList src its) (hne : src ≠ itr) (hSi : S ≠ itr) (hSl : S ≠ src) (hn : its.size ≤ sizeLine)
    (fin : ∀ h' tk acc c, (∀ b o, b ≠ itr → b ≠ S → s.heap.get? b = some o → h'.get? b = some o) → h'.get? S = some { cls := .type "list", dict := none, data := .seq acc c, slots := #[] } →
      ItemsOf (fun i v => its[its.size - 1 - i]? = some v) acc its.size → R (.ok (.ret .none)) { s with heap := h', toks := tk }) :
    wpAny (model prog w) A.in1 (Builtin.«list.__init__» ⟨[.ref S, .ref itr], []⟩)
      (fun f s' => match f with | .done z => R (.ok z) s' | .again c' => c'.quiet = true ∧ codeAny (model prog w) A c' R s') (fun e s' => R (.error e) s') s := by
  show wpAny _ _ (do let old ← Builtin.List.listItems (.ref S); Builtin.List.listUpdate (.ref S) (fun _ => #[]); letGo old.toList.reverse; Builtin.List.listExtendWith (.ref S) (.ref itr) .none) _ _ s
  refine wpAny_bind ?_
  unfold Builtin.List.listItems
  refine wpAny_bind (wpAny_seqItems hS rfl (wpAny_pure ?_))
  show wpAny _ _ (updateSeq S (fun _ => #[]) >>= fun _ => letGo (#[] : Array Value).toList.reverse >>= fun _ => Builtin.List.listExtendWith (.ref S) (.ref itr) .none) _ _ s
  refine wpAny_bind (wpAny_updateSeq hS rfl ?_)
  have hS2 := Heap.get?_update_self (Obj.mapSeq (fun _ => (#[] : Array Value))) hS rfl
  have oth : ∀ b o, b ≠ S → s.heap.get? b = some o → (s.heap.update S (Obj.mapSeq (fun _ => (#[] : Array Value)))).get? b = some o :=
    fun b o hb e => (Heap.get?_update_other _ _ (Ne.symm hb)).trans e
  refine wpAny_bind (wpAny_letGo ?_)
  obtain ⟨oi, hoi, ri⟩ := hit
  obtain ⟨ol, hol, rl⟩ := hl
  refine extRev (its := its) calm S .none _ hS2 ⟨oi, oth _ _ (Ne.symm hSi) hoi, ri⟩ ⟨ol, oth _ _ (Ne.symm hSl) hol, rl⟩ hne hSi hSl hn fun h' tk acc c hk hS' hacc => ?_
  exact fin h' tk acc c (fun b o hb hb2 e => hk b o hb hb2 (oth b o hb2 e)) hS' hacc
theorem listRev {itr src : Addr} {its : Array Value} {Q : Value → Shared → Prop} (calm : A.handled = none) (hit : s.heap.IsRevIter itr src ((its.size : Int) - 1)) (hl : s.heap.IsList src its) (hne : src ≠ itr) (hn : its.size ≤ sizeLine)
    (fin : ∀ h' tk acc c, (∀ b o, b ≠ itr → s.heap.get? b = some o → h'.get? b = some o) → h'.get? s.heap.objs.size = some { cls := .type "list", dict := none, data := .seq acc c, slots := #[] } →
      ItemsOf (fun i v => its[its.size - 1 - i]? = some v) acc its.size → Q (.ref s.heap.objs.size) { s with heap := h', toks := tk }) :
    wpAny (model prog w) A (call (.type "list") [.ref itr]) Q E s := by
  refine callType_codes (Q₁ := fun obj t => obj = .ref s.heap.objs.size ∧ t = { s with heap := s.heap.push { cls := .type "list", data := .seq #[] } }) F.called_list (F.typeCall_list_1 _) F.entry_list_init
    (code_list_new _ ⟨rfl, rfl⟩) fun obj t ht => ?_
  obtain ⟨rfl, rfl⟩ := ht
  have hS : (s.heap.push { cls := .type "list", data := .seq #[] }).get? s.heap.objs.size = some { cls := .type "list", data := .seq #[] } := Heap.get?_push_size _ rfl
  obtain ⟨oi, hoi, ri⟩ := hit
  obtain ⟨ol, hol, rl⟩ := hl
  refine ⟨⟨_, hS, rfl⟩, F.args_list_init_2 _ _, initRev (its := its) (A := A.in1) calm _ hS ⟨oi, Heap.get?_push_of_some _ hoi, ri⟩ ⟨ol, Heap.get?_push_of_some _ hol, rl⟩ hne (Nat.ne_of_gt (Heap.lt_size hoi)) (Nat.ne_of_gt (Heap.lt_size hol)) hn fun h' tk acc c hk hS' hacc => ?_⟩
  exact ⟨rfl, fin h' tk acc c (fun b o hb e => hk b o hb (Nat.ne_of_lt (Heap.lt_size e)) (Heap.get?_push_of_some _ e)) hS' hacc⟩
end
section
variable {X : Cx}
def tLstRev (K : PySem.W.Frag) (te : TE) : TE := fun σ H Q => te σ H fun v H1 => ∃ (a : Addr) (xs : List V), v = .ref a ∧ SqL K H1 a xs ∧ ∀ q, H1 q = none → Q (.ref q) (upd H1 q (.lst xs.reverse))
theorem pe_listRev {e : Expr} {te : TE} {p p2 pos pos2 : Pos} (hc : X.calm = true) (hg : Gl X "list") (hm : X.mg "list" = none) (hg2 : Gl X "reversed") (hm2 : X.mg "reversed" = none) (he : PE X e te)
    (hs : starEach [e] X.env = (false, eval e X.env) :: starEach [] X.env := by rfl)
    (hs2 : starEach [.Call (.Name "reversed" p2) [e] [] pos2] X.env = (false, eval (.Call (.Name "reversed" p2) [e] [] pos2) X.env) :: starEach [] X.env := by rfl) :
    PE X (.Call (.Name "list" p) [.Call (.Name "reversed" p2) [e] [] pos2] [] pos) (tLstRev X.K te) := by
  refine ⟨fun pins s σ H Q I h => ?_⟩
  refine Call_ (ld_blt I hg hm boot_list (PyProof.Rows.callWith_type1 (args_cons (Call_ (ld_blt I hg2 hm2 PyProof.Rows.boot_reversed (PyProof.Rows.callWith_type1 (args_cons (thn (he.run pins s σ H _ I h) fun u s1 ⟨v, H1, I1, r1, q1⟩ => args_nil ?_) hs) hs rfl))) hs2) hs2 rfl))
  obtain ⟨a, xs, ev, hq, q⟩ := q1
  subst ev
  obtain rfl : u = Value.ref a := r1
  obtain ⟨its, rv, pl, hz⟩ := I1.list hq
  refine call_reversed_list pl.isList (args_nil ?_)
  have I2 : Inv X pins σ H1 { s1 with heap := s1.heap.push (revObj a ((its.toArray.size : Int) - 1)) } := I1.kept (t' := s1.toks) fun b o e => Heap.get?_push_of_some _ e
  obtain ⟨f0, f1, f2, f3, f4, f5⟩ := I1.fpOk (H' := H1) (b := s1.heap.objs.size) (Nat.le_refl _) (I1.hok.fresh (Nat.le_refl _))
  have hl := pl.isList
  obtain ⟨ol, hol, _⟩ := id hl
  have hn : its.toArray.size ≤ sizeLine := by rw [List.size_toArray, ← rv.length]; exact hz
  refine listRev (s := { s1 with heap := s1.heap.push (revObj a ((its.toArray.size : Int) - 1)) }) (I1.ok.hd hc) ⟨_, Heap.get?_push_size _ rfl, rfl, rfl⟩ (hl.push _) (Nat.ne_of_lt (Heap.lt_size hol)) hn fun h' tk acc c hk hS hi => ?_
  have hfr : H1 (s1.heap.push (revObj a ((its.toArray.size : Int) - 1))).objs.size = none := I2.hok.fresh (Nat.le_refl _)
  have J := I2.step (H' := upd H1 (s1.heap.push (revObj a ((its.toArray.size : Int) - 1))).objs.size (.lst xs.reverse)) (h' := h') (g' := s1.gens) (d' := s1.drawn) (t' := tk) (ch := [s1.heap.objs.size])
    (fun b hb => by rw [List.mem_singleton.mp hb]; exact ⟨f3, f1, f4, f5⟩)
    (fun b o _ _ hc e _ => hk b o (fun z => hc (by rw [z]; exact List.mem_singleton.mpr rfl)) e)
    (fun b o _ _ hc e _ => ⟨o.slots, hk b o (fun z => hc (by rw [z]; exact List.mem_singleton.mpr rfl)) e⟩)
    (fun b o _ e n => by rw [upd_ne (Nat.ne_of_lt (Heap.lt_size e))]; exact n)
    (fun b o hc e => ⟨o, hk b o (fun z => hc (by rw [z]; exact List.mem_singleton.mpr rfl)) e⟩)
    (fun b ys e => by rw [upd_ne (ne_of_none e hfr)]; exact e) (fun b o ys e => by rw [upd_ne (ne_of_none e hfr)]; exact e) (fun b ps e => ⟨#[], by rw [upd_ne (ne_of_none e hfr), e]; simp⟩)
    (fun m hm => by
      obtain ⟨o, es, ep, ho, r⟩ := hm
      exact ⟨o, es, ep, hk _ o (Ne.symm f1) ho, r⟩)
    (fun b u e => by
      by_cases hb : b = (s1.heap.push (revObj a ((its.toArray.size : Int) - 1))).objs.size
      · rw [hb, upd_same] at e
        cases e
        rw [hb]
        exact ⟨by rw [List.length_reverse]; exact hz, acc.toList, c, RT.vals_rev rv hi, by rw [Array.toArray_toList]; exact hS⟩
      · rw [upd_ne hb] at e
        refine (I2.hok b u e).stay (fun d v hd q => hk d v ?_ q) (fun d q => by rw [upd_ne (ne_of_none q hfr)]; exact q) fun d ys q => by rw [upd_ne (ne_of_none q hfr)]; exact q
        rcases hd with rfl | hd
        · exact fun z => by rw [z, f0] at e; cases e
        · exact fun z => by rw [z, f0] at hd; cases hd) I2.bare
  exact ⟨.ref _, _, J, rfl, q _ hfr⟩
end
end FF
namespace FF
open PySem PySem.Spec PyProof.Rows L2
variable [LT]
/-! ### len(set(xs)), sorted(set(xs)) of ints -/
def nub (ns : List Int) : List Int := ns.foldl step_dedup []
theorem met_nub (ns : List Int) : firstMet (fun i => ns.getD i 0) ns.length = nub ns := by
  unfold firstMet nub
  have e : (List.range ns.length).map (fun i => ns.getD i 0) = ns := by
    apply List.ext_getElem
    · simp
    · intro i h1 h2
      simp [List.getElem?_eq_getElem h2]
  rw [e]
theorem nub_length (ns : List Int) : (nub ns).length ≤ ns.length := by
  rw [← met_nub]
  exact firstMet_length_le _ _
section
variable {X : Cx}
def tLenSetL (K : PySem.W.Frag) (ta : TE) : TE := fun σ H Q => ta σ H fun x H1 => ∃ (l : Addr) (ns : List Int), x = V.ref l ∧ SqL K H1 l (ns.map V.int) ∧ ns.length ≤ 1000 ∧ Q (.int (nub ns).length) H1
theorem pe_lenSetL {a : Expr} {ta : TE} {p p2 q pos : Pos} (hg : Gl X "len") (hm : X.mg "len" = none) (hg2 : Gl X "set") (hm2 : X.mg "set" = none) (ha : PE X a ta) (hc : X.calm = true := by rfl)
    (na : starEach [a] X.env = (false, eval a X.env) :: starEach [] X.env := by rfl) : PE X (.Call (.Name "len" p) [.Call (.Name "set" p2) [a] [] q] [] pos) (tLenSetL X.K ta) := by
  refine ⟨fun pins s σ H Q I h => Call_ (ld_blt I hg hm boot_len (PyProof.Rows.callWith_builtin1 (PyProof.Rows.args_cons (Call_ (ld_blt I hg2 hm2 boot_set ?_)) rfl) rfl rfl))⟩
  refine PyProof.Rows.callWith_type1 (PyProof.Rows.args_cons (thn (ha.run pins s σ H _ I h) fun v t ⟨x, G, J, rx, qx⟩ => PyProof.Rows.args_nil ?_) na) na rfl
  obtain ⟨l, ns, rfl, hq, hl, qx⟩ := qx
  cases rx
  obtain ⟨its, r, pl, hz⟩ := J.list hq
  have hlen : its.toArray.size = ns.length := by rw [List.size_toArray, ← r.length, List.length_map]
  refine call_set_list (J.ok.hd hc) pl.isList (by simpa using RZ.intsAre_vals r) (by rw [hlen]; unfold scanBound; omega) fun h' tk hS hk => PyProof.Rows.args_nil ?_
  rw [hlen, met_nub] at hS
  obtain ⟨o, es, ep, tb, ho, hex, hd, _, _, _, hf, hn⟩ := hS
  have J2 : Inv X pins σ G { t with heap := h', toks := tk } := J.kept fun b o e => hk b o (Heap.lt_size e) e
  have hnub := nub_length ns
  exact call_len_set ho hex hd hf (by rw [hn]; omega) ⟨.int (nub ns).length, G, J2.tok _, ⟨_, by rw [hn]⟩, qx⟩
end
section
variable {P : Program} {w : World} {A : Around} {E : Value → Shared → Prop} {s : Shared}
end
section
variable {X : Cx}
end
end FF
namespace FF
open PySem PySem.Spec PyProof.Rows L2
variable [LT]
/-! ### generator expressions: a turn, the frame, the protocol -/
section
variable {α : Type}
/-- what a generator expression is made of: its syntax, its frame's context, its iterator, the consumer's objects and what they hold -/
structure GxD (α : Type) where
  Z : Cx
  elt : Expr
  tg : Expr
  iter : Expr
  ifs : List Expr
  scope : Scope
  pos : Pos
  it : Addr
  fp : List Addr
  tn : Nat → Heap → Prop
  J : It
  prot : List Addr
  Acc : α → Heap → Prop
  W : Nat → Nat → α → Hp → Prop
  Yl : α → V → Hp → (α → Hp → Prop) → Prop
  Dn : α → Hp → Prop
  σ0 : L2.St
  vs : List Nat
abbrev GxD.expr (D : GxD α) : Expr := .GeneratorExp D.elt [⟨D.tg, D.iter, D.ifs, 0⟩] D.scope D.pos
abbrev GxD.loop (D : GxD α) : Code := .compLoop D.expr 0 (.ref D.it) .none D.Z.env
abbrev GxD.begin (D : GxD α) : Code := .compStart D.expr 0 (.ref D.it) .none D.Z.env
/-- the frame's invariant, the consumer's objects pinned as they stand -/
def GxD.Inv (D : GxD α) (pins : List (Addr × Obj)) (H : Hp) (s : Shared) : Prop :=
  pins.map (·.1) = D.prot ∧ L2.Inv D.Z pins D.σ0 H s ∧ ∀ b ∈ D.fp, FpOk D.Z pins H b
def GxD.Y (D : GxD α) : Protocol := fun _ s₀ v s kap => ∃ (i : Nat) (a : α) (pins : List (Addr × Obj)) (H : Hp) (x : V) (Nx : α → Hp → Prop),
  RelV x v ∧ s₀.gens.size ≤ s.gens.size ∧ D.Acc a s₀.heap ∧ (∀ p ∈ pins, s₀.heap.get? p.1 = some p.2) ∧ D.Inv pins H s ∧ D.tn (i + 1) s.heap ∧ D.Yl a x H Nx ∧
  ∀ (s' : Shared) (pins' : List (Addr × Obj)) (H' : Hp) (a' : α), D.Inv pins' H' s' → D.tn (i + 1) s'.heap → D.Acc a' s'.heap → Nx a' H' → kap (.send .none) s'
def GxD.P (D : GxD α) : Nat → Shared → Shared → Prop := fun _ s₀ s => ∃ (a : α) (pins : List (Addr × Obj)) (H : Hp),
  D.Acc a s₀.heap ∧ (∀ p ∈ pins, s₀.heap.get? p.1 = some p.2) ∧ D.Inv pins H s ∧ D.Dn a H
abbrev GxD.R (D : GxD α) : GenEnd := fun n s₀ r s => r = .ok .next ∧ D.P n s₀ s
/-- the syntax keeps to its rules; what a turn does -/
structure GxD.Ok (D : GxD α) (g : TG) (tt : TT) (te : TE) : Prop where
  calm : D.Z.calm = true
  xe : D.Z.xe = fun _ _ => False
  co : D.Z.env.scope.isCoroutine = false
  turn : Turn D.Z.prog D.Z.w D.Z.K D.tg D.J D.fp D.it D.tn
  pg : PG D.Z D.tg g
  pt : PTs D.Z D.ifs tt
  pe : PE D.Z D.elt te
  step : ∀ i m a H, D.W i m a H → (D.J.stop i H ∧ D.Dn a H) ∨ (D.J.go i H ∧ ∃ Nx : α → Hp → Prop, (∀ a' H', Nx a' H' → ∃ m', m' < m ∧ D.W (i + 1) m' a' H') ∧
    ∀ x H1, D.J.yld i H x H1 → g x D.σ0 H1 fun σ2 H2 => wipe σ2 D.vs = D.σ0 ∧ tt σ2 H2 fun b H3 => if b = true then te σ2 H3 fun y H4 => D.Yl a y H4 Nx else Nx a H3)
theorem gx_seg {D : GxD α} {g : TG} {tt : TT} {te : TE} (ok : D.Ok g tt te) {A : Around} (hA : A.over D.loop [] = D.Z.A) :
    ∀ (m i n : Nat) (s₀ s : Shared) (pins : List (Addr × Obj)) (H : Hp) (a : α), m < n → s₀.gens.size ≤ s.gens.size → D.Inv pins H s → D.tn i s.heap → D.Acc a s₀.heap → (∀ p ∈ pins, s₀.heap.get? p.1 = some p.2) → D.W i m a H →
      Seg (model D.Z.prog D.Z.w) A D.R D.Y n s₀ D.loop ((model D.Z.prog D.Z.w).den D.loop) [] s := by
  intro m
  induction m using Nat.strongRecOn with
  | _ m ih =>
    intro i n s₀ s pins H a hmn hz GI ht hacc hp0 hw
    obtain ⟨hpr, I, hf⟩ := GI
    have T := ok.turn
    show Seg _ A _ _ _ s₀ _ ((compTurn D.expr 0 (.ref D.it) .none D.Z.env).onRaise (leaving D.Z.env)) [] s
    rw [compTurn_gen, Sem.onRaise_eq_wrap]
    refine seg_bind_wrap (wpAny_standAt ?_)
    rcases ok.step i m a H hw with ⟨stop, dn⟩ | ⟨go, Nx, hNx, st⟩
    · refine seg_bind_wrap ?_
      rw [hA]
      refine thnF (T.done D.Z rfl rfl rfl ok.calm i pins s D.σ0 H (fun _ _ => False) I hf ht stop) fun r t ⟨hr, J⟩ => ?_
      subst hr
      exact seg_end (.ok .next) ⟨rfl, a, pins, H, hacc, hp0, ⟨hpr, J, hf⟩, dn⟩
    · refine seg_bind_wrap ?_
      rw [hA]
      refine GenW.wpAny_gsz hz (thnF (T.item D.Z rfl rfl rfl ok.calm i pins s D.σ0 H (fun _ _ => False) I hf ht go) fun r t ⟨u, hr, h1⟩ z0 => ?_)
      subst hr
      refine seg_bind_wrap ?_
      rw [hA]
      refine GenW.wpAny_gsz z0 (thnF h1 fun _ t1 ⟨x, H1, I1, r1, y1, tn1, n1⟩ z1 => ?_)
      have f1 : ∀ b ∈ D.fp, FpOk D.Z pins H1 b := fun b hb => ⟨n1 b hb, (hf b hb).2⟩
      have I1p := I1.pinned f1 (T.obj _ _ tn1)
      have hpg := ok.pg.run _ t1 D.σ0 H1 x u _ I1p r1 (st x H1 y1)
      rw [ok.xe] at hpg
      refine seg_bind_wrap ?_
      rw [hA]
      refine GenW.wpAny_gsz z1 (thnF hpg fun _ t2 ⟨σ2, H2, I2, w2, q2⟩ z2 => ?_)
      have hpt := ok.pt.run _ t2 σ2 H2 _ I2 q2
      rw [ok.xe] at hpt
      refine seg_bind_wrap ?_
      rw [hA]
      refine GenW.wpAny_gsz z2 (thnF hpt fun b t3 ⟨H3, I3, q3⟩ z3 => ?_)
      -- what holds at the turn's end
      have fin : ∀ {t' : Shared} {H' : Hp}, L2.Inv D.Z (pins ++ pinsAt D.fp t1.heap) σ2 H' t' → D.Inv pins H' t' ∧ D.tn (i + 1) t'.heap := fun {t' H'} J => by
        have pin' : ∀ b ∈ D.fp, ∀ o, t1.heap.get? b = some o → t'.heap.get? b = some o ∧ H' b = none := fun b hb o e =>
          let z := J.pin (b, o) (List.mem_append_right _ (List.mem_append_right _ (mem_pinsAt hb e)))
          ⟨z.1, z.2.1⟩
        have hl : D.σ0.length = σ2.length := by rw [← w2, wipe_length]
        refine ⟨⟨hpr, J.unpinned.weak hl (fun j v e => by rw [← w2] at e; exact (wipe_some e).1), fun b hb => ?_⟩, T.keep _ _ _ tn1 fun b hb o e => (pin' b hb o e).1⟩
        obtain ⟨o, e, _⟩ := T.obj _ _ tn1 b hb
        exact ⟨(pin' b hb o e).2, (hf b hb).2⟩
      cases b with
      | false =>
        simp only [Bool.false_eq_true, if_false] at q3 ⊢
        obtain ⟨m', hm', w'⟩ := hNx a H3 q3
        obtain ⟨G3, tn3⟩ := fin I3
        exact seg_again rfl (ih m' hm' (i + 1) n s₀ t3 pins H3 a (by omega) z3 G3 tn3 hacc hp0 w')
      | true =>
        simp only [if_true] at q3 ⊢
        have hy : ∀ v, yieldOut D.Z.env v = yieldValue v := fun v => by simp only [yieldOut, ok.co, Bool.false_eq_true, if_false]
        simp only [hy]
        rw [Sem.bind_eq_wrap', Sem.bind_eq_wrap', Sem.wrap_wrap, Sem.wrap_wrap]
        have hpe := ok.pe.run _ t3 σ2 H3 _ I3 q3
        rw [ok.xe] at hpe
        refine seg_wrap ?_
        rw [hA]
        refine GenW.wpAny_gsz z3 (thnF hpe fun y t4 ⟨z, H4, I4, r4, q4⟩ z4 => ?_)
        obtain ⟨n', rfl⟩ : ∃ n', n = n' + 1 := ⟨n - 1, by omega⟩
        obtain ⟨G4, tn4⟩ := fin I4
        refine seg_at (seg_yield rfl rfl rfl ⟨i, a, pins, H4, z, Nx, r4, z4, hacc, hp0, G4, tn4, q4, fun t' pins' H' a' G' tn' hacc' nx => ?_⟩)
        obtain ⟨m', hm', w'⟩ := hNx a' H' nx
        exact seg_again rfl (ih m' hm' (i + 1) n' t' t' pins' H' a' (by omega) (Nat.le_refl _) G' tn' hacc' (fun p hp => (G'.2.1.pin p (List.mem_append_right _ hp)).1) w')
theorem gx_begin {D : GxD α} {g : TG} {tt : TT} {te : TE} (ok : D.Ok g tt te) {A : Around} (hA : A.over D.loop [] = D.Z.A) {m n : Nat} {s : Shared} {pins : List (Addr × Obj)} {H : Hp} {a : α}
    (hmn : m < n) (G : D.Inv pins H s) (ht : D.tn 0 s.heap) (hacc : D.Acc a s.heap) (hw : D.W 0 m a H) :
    Seg (model D.Z.prog D.Z.w) A D.R D.Y n s D.begin ((model D.Z.prog D.Z.w).den D.begin) [] s := by
  have loop := gx_seg ok hA m 0 n s s pins H a hmn (Nat.le_refl _) G ht hacc (fun p hp => (G.2.1.pin p (List.mem_append_right _ hp)).1) hw
  show Seg _ A _ _ _ s _ ((compStart D.expr 0 (.ref D.it) .none D.Z.env).onRaise (leaving D.Z.env)) [] s
  unfold compStart
  rw [Sem.onRaise_eq_wrap]
  show Seg _ A _ _ _ s _ ((ask >>= _).wrap _ _ _ _) [] s
  refine seg_bind_wrap (wpAny_askSetting ?_)
  split
  · exact seg_again rfl loop
  · first
      | exact seg_bind_wrap (wpAny_rule (seg_bind_wrap (wpAny_standAt (seg_bind_wrap (ok.turn.self _ 0 s _ _ ht (seg_again rfl loop))))))
      | (refine seg_bind_wrap (wpAny_rule ?_); show Seg _ A _ _ _ s _ ((standAt D.iter.pos >>= _).wrap _ _ _ _) [] s; exact seg_bind_wrap (wpAny_standAt (seg_bind_wrap (ok.turn.self _ 0 s _ _ ht (seg_again rfl loop)))))
end
end FF
namespace FF
open PySem PySem.Spec PyProof.Rows L2
variable [LT]
/-! ### generator expressions: the consumer's side -/
section
variable {α : Type}
theorem Inv.gens {X : Cx} {pins : List (Addr × Obj)} {σ : L2.St} {H : Hp} {s : Shared} (I : L2.Inv X pins σ H s) {G : Array GenState} (hG : AllBare G) : L2.Inv X pins σ H { s with gens := G } :=
  ⟨I.ok, I.os, hG, I.base, I.loc, I.cell, I.free, I.freeC, I.pin, I.hok, I.len⟩
theorem bare_set {G : Array GenState} {g : Nat} {x : GenState} (h : AllBare G) (hx : x.bare = true) : AllBare (G.setIfInBounds g x) := fun y hy => by
  obtain ⟨i, hi, rfl⟩ := Array.mem_iff_getElem.mp hy
  rw [Array.getElem_setIfInBounds (by simpa using hi)]
  split
  · exact hx
  · exact h _ (Array.getElem_mem _)
theorem GxD.Inv.setGen {D : GxD α} {pins : List (Addr × Obj)} {H : Hp} {s : Shared} (G : D.Inv pins H s) {g : Nat} {x : GenState} (hx : x.bare = true) : D.Inv pins H (s.setGen g x) :=
  ⟨G.1, Inv.gens G.2.1 (bare_set G.2.1.bare hx), G.2.2⟩
/-- the generator g at ga sleeps; n: more than it will hand out; a: what the consumer has -/
structure GxD.Live (D : GxD α) (A : Around) (ga : Addr) (g n : Nat) (a : α) (s : Shared) : Prop where
  mem : ga ∈ D.prot
  isg : s.heap.IsGen ga g
  acc : D.Acc a s.heap
  inv : ∃ pins H, D.Inv pins H s
  go : ∃ gs, s.gens[g]? = some gs ∧ gs.Goes (model D.Z.prog D.Z.w) A.in1 D.R D.Y n (.send .none) (s.setGen g .running)
/-- it has handed out x, the heap is H; where the consumer comes to Nx it lives on -/
structure GxD.Told (D : GxD α) (A : Around) (ga : Addr) (g n : Nat) (a : α) (x : V) (H : Hp) (Nx : α → Hp → Prop) (s : Shared) : Prop where
  inv : ∃ pins, D.Inv pins H s
  acc : D.Acc a s.heap
  yl : D.Yl a x H Nx
  isg : s.heap.IsGen ga g
  on : ∃ i, D.tn (i + 1) s.heap ∧ ∀ (s' : Shared) (pins' : List (Addr × Obj)) (H' : Hp) (a' : α), s'.gens = s.gens → s'.heap.IsGen ga g → D.Inv pins' H' s' → D.tn (i + 1) s'.heap → D.Acc a' s'.heap → Nx a' H' → ∃ n', n = n' + 1 ∧ D.Live A ga g n' a' s'
theorem pins_same {D : GxD α} {pins : List (Addr × Obj)} {H : Hp} {s s₀ : Shared} (G : D.Inv pins H s) (h0 : ∀ p ∈ pins, s₀.heap.get? p.1 = some p.2) {b : Addr} (hb : b ∈ D.prot) : s.heap.get? b = s₀.heap.get? b := by
  rw [← G.1] at hb
  obtain ⟨p, hp, e⟩ := List.mem_map.mp hb
  rw [← e, (G.2.1.pin p (List.mem_append_right _ hp)).1, h0 p hp]
theorem gx_next {D : GxD α} {A : Around} {ga : Addr} {g n : Nat} {a : α} {s : Shared} {Q : Option Value → Shared → Prop} {E : Value → Shared → Prop} (calm : A.handled = none) (room : A.depth < recursionLimit)
    (hfun : ∀ a a' h, D.Acc a h → D.Acc a' h → a = a') (hpr : ∀ a h h', (∀ b ∈ D.prot, h'.get? b = h.get? b) → D.Acc a h → D.Acc a h') (L : D.Live A ga g n a s)
    (some_ : ∀ v x H Nx t, RelV x v → D.Told A ga g n a x H Nx t → Q (some v) t)
    (none_ : ∀ pins H t, D.Inv pins H t → D.Dn a H → Q none t) :
    wpAny (model D.Z.prog D.Z.w) A (pyNext (.ref ga)) Q E s := by
  obtain ⟨pins0, H0, G0⟩ := L.inv
  obtain ⟨gs, hgs, hgo⟩ := L.go
  refine wpAny_pyNext_genexpQ (P := D.P) (Y := D.Y) (n := n) calm G0.2.1.nolimit room L.isg hgs hgo (fun v t gs' hb hv => ?_) (fun t hp h' hk => ?_)
  · obtain ⟨i, a1, pins, H, x, Nx, rx, hz, hacc, h0, G, htn, hyl, kap⟩ := hv
    have ea : a1 = a := hfun _ _ _ hacc L.acc
    subst ea
    have same : ∀ b ∈ D.prot, t.heap.get? b = s.heap.get? b := fun b hb' => pins_same G h0 hb'
    have isg : t.heap.IsGen ga g := by
      obtain ⟨o, nm, qn, ho, r⟩ := L.isg
      exact ⟨o, nm, qn, (same ga L.mem).trans ho, r⟩
    refine some_ v x H Nx _ rx ⟨⟨pins, G.setGen hb⟩, hpr _ _ _ same hacc, hyl, isg, i, htn, fun s' pins' H' a' hge isg' G' htn' hacc' nx => ?_⟩
    have kp := kap (s'.setGen g .running) pins' H' a' (G'.setGen rfl) htn' hacc' nx
    cases n with
    | zero => exact kp.elim
    | succ n' =>
    refine ⟨n', rfl, L.mem, isg', hacc', ⟨_, _, G'⟩, gs', ?_, kp⟩
    rw [hge]
    · have hlt : g < t.gens.size := by
        have h1 : g < s.gens.size := (Array.getElem?_eq_some_iff.mp hgs).1
        have h2 : (s.setGen g .running).gens.size = s.gens.size := by simp [Shared.setGen]
        omega
      simp [Shared.setGen, hlt]
  · obtain ⟨a1, pins, H, hacc, h0, G, hdn⟩ := hp
    have ea : a1 = a := hfun _ _ _ hacc L.acc
    subst ea
    exact none_ pins H _ ⟨G.1, Inv.gens (G := (t.setGen g .finished).gens) (G.2.1.kept (t' := t.toks) hk) (bare_set G.2.1.bare rfl), G.2.2⟩ hdn
theorem GxD.Told.stay {D : GxD α} {A : Around} {ga : Addr} {g n : Nat} {a a' : α} {x : V} {H : Hp} {Nx : α → Hp → Prop} {s : Shared} (T : D.Told A ga g n a x H Nx s) (tk : Nat) (nx : Nx a' H) (ha : D.Acc a' s.heap) :
    ∃ n', n = n' + 1 ∧ D.Live A ga g n' a' { s with toks := tk } := by
  obtain ⟨pins, G⟩ := T.inv
  obtain ⟨i, ht, on⟩ := T.on
  exact on { s with toks := tk } pins H a' rfl T.isg ⟨G.1, G.2.1.tok tk, G.2.2⟩ ht ha nx
/-- any(..), all(..): where k is not yet, the next; where it is, the end -/
def ylAll (stop : Bool) (Fl : Hp → Prop) : Unit → V → Hp → (Unit → Hp → Prop) → Prop := fun _ x H Nx => ∃ k, x = .bl k ∧ if k = stop then Fl H else Nx () H
theorem unit_fun {D : GxD Unit} : ∀ a a' h, D.Acc a h → D.Acc a' h → a = a' := fun _ _ _ _ _ => rfl
theorem all_loop {D : GxD Unit} {A : Around} {ga : Addr} {g : Nat} {R : Result → Shared → Prop} {Fl : Hp → Prop} (calm : A.handled = none) (room : A.depth < recursionLimit) (hyl : D.Yl = ylAll false Fl) (hac : D.Acc = fun _ _ => True)
    (yes : ∀ pins H t, D.Inv pins H t → D.Dn () H → R (.ok (.ret (.bool true))) t) (no : ∀ pins H t, D.Inv pins H t → Fl H → R (.ok (.ret (.bool false))) t) :
    ∀ n s, D.Live A.in1 ga g n () s → codeAny (model D.Z.prog D.Z.w) A (.builtin "all.loop" ⟨[.ref ga], []⟩) R s := by
  intro n
  induction n using Nat.strongRecOn with
  | _ n ih =>
    intro s L
    refine codeAny_builtin F.entry_all_loop ?_
    rw [Around.under_plainId F.plain_all_loop _]
    show wpAny _ A.in1 (pyNext (.ref ga) >>= _) _ _ s
    refine wpAny_bind (gx_next (A := A.in1) calm room unit_fun (fun _ _ _ _ _ => by rw [hac]; trivial) L (fun v x H Nx t rx T => ?_) (fun pins H t G dn => ?_))
    · have yl := T.yl
      rw [hyl] at yl
      obtain ⟨k, rfl, q⟩ := yl
      obtain rfl : v = .bool k := rx
      refine wpAny_bind (wpAny_holding (wpAny_truthy_bool (wpAny_bind (wpAny_letGo ?_))))
      cases k with
      | true =>
        simp only [Bool.true_eq_false, if_false] at q
        simp only [if_true]
        obtain ⟨n', rfl, L'⟩ := T.stay (a' := ()) t.toks q (by rw [hac]; trivial)
        exact wpAny_pure ⟨plainId_quiet F.plain_all_loop _, ih n' (Nat.lt_succ_self _) t L'⟩
      | false =>
        simp only [if_true] at q
        simp only [Bool.false_eq_true, if_false]
        obtain ⟨pins, G⟩ := T.inv
        exact wpAny_bind (wpAny_rule (wpAny_pure (no pins H t G q)))
    · exact wpAny_bind (wpAny_rule (wpAny_pure (yes pins H t G dn)))
end
end FF
namespace FF
open PySem PySem.Spec PyProof.Rows L2
variable [LT]
/-! ### generator expressions: made -/
/-- the context of a generator expression's frame -/
abbrev gcx (X : Cx) (A : Around) (N : List Str) (s : Shared) (H : Hp) (cenv : Env) (fp : List Addr) : Cx :=
  { X with A := A, N := N, s_0 := s, H_0 := H, env := cenv, outer := X.stack, stack := cenv :: X.stack, ex := fp, fn := fun _ => false, calm := true, pn := [], xe := fun _ _ => False }
/-- its names: own ones, and those that the def (names XN) has as cells; src tells where these stand there -/
structure GxS (XN : List Str) (xsc scope : Scope) (N : List Str) (src : List (Option Nat)) : Prop where
  kind : scope.kind = .function
  co : scope.isCoroutine = false
  cell : ∀ y ∈ scope.names, y.2 ≠ .cell
  dot : scope.names.lookup (".0" : Str) = some NameKind.local
  free : ∀ y ∈ scope.names, y.2 = .free → xsc.names.lookup y.1 = some .cell ∨ xsc.names.lookup y.1 = some .free
  len : src.length = N.length
  nd : N.Nodup
  cap : ∀ (i j : Nat), src[i]? = some (some j) → ∃ x, N[i]? = some x ∧ XN[j]? = some x ∧ scope.names.lookup x = some .free
def gxσ (src : List (Option Nat)) (σ : L2.St) : L2.St := src.map fun o => match o with
  | some j => (σ[j]?).getD none
  | none => none
/-- a table of code objects of generator expressions stands at P -/
def TabG (H : Hp) (P : Addr) : Prop := ∃ ps : Array Value, H P = some (.tbl ps) ∧ TriplesOk ps.toList ∧ LT.lam P = false
/-- H' is H but for the table at P, which may have grown -/
def Tabd (P : Addr) (H H' : Hp) : Prop := TabG H' P ∧ ∀ b, b ≠ P → H' b = H b
section
variable {X : Cx} {pins : List (Addr × Obj)} {σ : L2.St} {H : Hp} {s : Shared}
theorem gx_inv {scope : Scope} {N : List Str} {src : List (Option Nat)} {fp : List Addr} {A : Around} {code : Value} {h' : Heap} {itv : Value} {gs : GenState} {tk : Nat} {og : Obj} (S : GxS X.N X.env.scope scope N src) (I : L2.Inv X pins σ H s) (hfp : ∀ b ∈ fp, FpOk X pins H b ∧ b < s.heap.objs.size)
    (hA : A.handled = none) (hF : A.frames = some (genEnv scope (cloFrom X.env.cells scope.names []) s.heap.objs.size code builtinsNs X.env :: X.stack)) (hgs : gs.bare = true)
    (hn : h'.Ns s.heap.objs.size (fun y => if y = ".0" then some itv else none)) (hs : Heap.SameBut s.heap.objs.size (s.heap.push { cls := .type "frame", data := .dict #[] }) h') :
    L2.Inv (gcx X A N s H (genEnv scope (cloFrom X.env.cells scope.names []) s.heap.objs.size code builtinsNs X.env) fp) [] (gxσ src σ) H { s with gens := s.gens.push gs, toks := tk, heap := h'.push og } := by
  have hfree : ∀ y ∈ scope.names, y.2 = .free → ∃ c, X.env.cells.lookup y.1 = some c := fun y hy e => by
    rcases S.free y hy e with k | k
    · exact I.ok.has _ (.inl k)
    · exact I.ok.has _ (.inr k)
  have kp : ∀ b o, s.heap.get? b = some o → (h'.push og).get? b = some o := fun b o e => Heap.get?_push_of_some _ (hs.extBut b o (Nat.ne_of_lt (Heap.lt_size e)) (Heap.get?_push_of_some _ e))
  have cm : ∀ {y c}, (cloFrom X.env.cells scope.names []).lookup y = some c → X.env.cells.lookup y = some c ∧ c < s.heap.objs.size := fun {y c} e => by
    rcases cloFrom_mem (PySem.mem_of_lookup e) with z | ⟨h1, h2⟩
    · cases z
    · obtain ⟨c', hc⟩ := hfree _ h1 rfl
      rw [hc] at h2
      have h2 : c = c' := h2
      rw [h2]
      obtain ⟨v, z⟩ := I.cell _ _ hc
      exact ⟨hc, z.lt⟩
  have has : ∀ {y}, scope.names.lookup y = some .free → ∃ c, (cloFrom X.env.cells scope.names []).lookup y = some c := fun {y} hl => by
    obtain ⟨c, e⟩ := mem_lookup (cloFrom_has (cells := X.env.cells) (acc := []) (PySem.mem_of_lookup hl))
    exact ⟨c, e⟩
  have okZ : (gcx X A N s H (genEnv scope (cloFrom X.env.cells scope.names []) s.heap.objs.size code builtinsNs X.env) fp).Ok := by
    refine ⟨I.ok.mod, S.kind, I.ok.glob, rfl, Nat.le_refl _, fun y z c e1 e2 => I.ok.inj y z c (cm e1).1 (cm e2).1, fun y hy => ?_, fun y c z e => (Bool.false_ne_true z).elim, fun _ => hA, hF, .inr ⟨rfl, rfl⟩, fun b hb => ⟨Nat.ne_of_lt (hfp b hb).2, fun y c e => (hfp b hb).1.2.2.2.2.1 y c (cm e).1⟩, I.bs, Nat.le_trans I.ok.bsz I.sz, fun b o e hb => ?_, fun b hb z => ?_, I.stack, I.stkFree⟩
    · rcases hy with hy | hy
      · exact absurd rfl (S.cell _ (PySem.mem_of_lookup hy))
      · exact has hy
    · rcases (hfp b hb).1.2.2.2.1 with z | z
      · exact I.ok.noex b o e z
      · exact absurd (Nat.lt_of_lt_of_le (Heap.lt_size e) (Nat.le_trans I.ok.bsz z)) (Nat.lt_irrefl _)
    · rcases List.mem_cons.mp (I.stkSub b z) with z | z
      · exact (hfp b hb).1.2.1 z
      · exact (hfp b hb).1.2.2.1 z
  refine ⟨okZ, rfl, I.bare.push hgs, Un.kept kp, ⟨_, hn.push og, fun i y v e1 e2 e3 => ?_⟩, fun y c e => ?_, I.hok.fresh (Nat.le_refl _), fun y c e => I.freeC y c (cm e).1, fun p hp => absurd (show p ∈ ([] : List (Addr × Obj)) ++ [] from hp) (by simp), I.hok.kept kp, ?_⟩
  · -- the captured names
    unfold gxσ at e2
    rw [List.getElem?_map] at e2
    cases hsrc : src[i]? with
    | none => rw [hsrc] at e2; cases e2
    | some o =>
      rw [hsrc] at e2
      cases o with
      | none => exact absurd (show (some (none : Option V)) = some (some v) from e2) (by simp)
      | some j =>
        have e2 : some ((σ[j]?).getD none) = some (some v) := e2
        have e4 : σ[j]? = some (some v) := by
          cases hj : σ[j]? with
          | none => rw [hj] at e2; exact absurd (Option.some.inj e2) (by simp)
          | some w => rw [hj] at e2; exact congrArg some (Option.some.inj e2)
        obtain ⟨x, hx1, hx2, hx3⟩ := S.cap i j hsrc
        have exy : x = y := Option.some.inj (hx1.symm.trans e1)
        subst exy
        obtain ⟨m, hm, hl⟩ := I.loc
        have hsc := S.free _ (PySem.mem_of_lookup hx3) rfl
        have hvis : Vis X.env.scope x := hsc.elim (fun k => .inr (.inl k)) (fun k => .inr (.inr k))
        obtain ⟨u, ru, lk⟩ := hl j x v hx2 e4 hvis
        refine ⟨u, ru, .inr ⟨.inr hx3, ?_⟩⟩
        obtain ⟨c, hc⟩ := has hx3
        refine ⟨c, hc, ?_⟩
        rcases lk with ⟨k, _⟩ | ⟨_, c', e', z⟩
        · have k : X.env.scope.names.lookup x = some .local := k
          rcases hsc with q | q <;> rw [show X.env.scope.names.lookup x = _ from q] at k <;> cases k
        · have := (cm hc).1
          rw [e'] at this
          cases this
          exact z.keeps kp
  · obtain ⟨v, z⟩ := I.cell y c (cm e).1
    exact ⟨v, z.keeps kp⟩
  · show (gxσ src σ).length = N.length
    unfold gxσ
    rw [List.length_map]
    exact S.len
end
end FF
namespace FF
open PySem PySem.Spec PyProof.Rows L2
variable [LT]
/-! ### generator expressions: the rules -/
section
variable {X : Cx} {pins : List (Addr × Obj)} {σ : L2.St} {H : Hp} {s : Shared}
abbrev gEnv (X : Cx) (scope : Scope) (C : Addr) (code : Value) : Env := genEnv scope (cloFrom X.env.cells scope.names []) C code builtinsNs X.env
/-- a generator expression has been made, at ga: all that is known of it -/
structure Ready (X : Cx) (pins : List (Addr × Obj)) (σ : L2.St) (elt tg iter : Expr) (ifs : List Expr) (scope : Scope) (gpos : Pos) (N : List Str) (src : List (Option Nat)) (J : It) (G : Hp) (it : Addr) (fp : List Addr) (tn : Nat → Heap → Prop) (code : Value) (s4 t : Shared) (ga : Addr) (g : Nat) : Prop where
  i4 : L2.Inv X pins σ G s4
  fpX : ∀ b ∈ fp, FpOk X pins G b ∧ b < s4.heap.objs.size
  turn : Turn X.prog X.w X.K tg J fp it tn
  tn0 : tn 0 t.heap
  isg : t.heap.IsGen ga g
  gen : t.gens[g]? = some (.fresh (.compStart (.GeneratorExp elt [⟨tg, iter, ifs, 0⟩] scope gpos) 0 (.ref it) .none (gEnv X scope s4.heap.objs.size code)))
  inv : ∀ A : Around, A.handled = none → A.frames = some (gEnv X scope s4.heap.objs.size code :: X.stack) → L2.Inv (gcx X A N s4 G (gEnv X scope s4.heap.objs.size code) fp) [] (gxσ src σ) G t
  new : s4.heap.objs.size < ga
  lt : ga < t.heap.objs.size
theorem gx_make {c P : Addr} {elt tg iter : Expr} {ifs : List Expr} {scope : Scope} {gpos : Pos} {N : List Str} {src : List (Option Nat)} {wi : TI} {k : Nat} {Rr : It → Hp → Prop} {Q' : Value → Shared → Prop} (hr : Room k X.A) (TB : LamX.TabB X.base X.mg c P) (hcode : X.env.code = .ref c)
    (S : GxS X.N X.env.scope scope N src) (hi : PI X tg iter wi) (hs : ∀ v, genFold iter X.env v = pure v) (I : L2.Inv X pins σ H s) (h : wi σ H fun J H1 => TabG H1 P ∧ ∀ H2, Tabd P H1 H2 → Rr J H2)
    (fin : ∀ J G it fp tn code s4 t ga g, Rr J G → Ready X pins σ elt tg iter ifs scope gpos N src J G it fp tn code s4 t ga g → Q' (.ref ga) t) :
    wpAny (model X.prog X.w) X.A (eval (.GeneratorExp elt [⟨tg, iter, ifs, 0⟩] scope gpos) X.env) Q' X.xe s := by
  have hfree : ∀ y ∈ scope.names, y.2 = .free → ∃ c, X.env.cells.lookup y.1 = some c := fun y hy e => by
    rcases S.free y hy e with k | k
    · exact I.ok.has _ (.inl k)
    · exact I.ok.has _ (.inr k)
  refine wpAny_GeneratorExp_make S.co (closure_ok hfree) S.cell S.dot S.kind hr.depth (thn (hi.run pins s σ H _ I h) fun xv s1 hx => thn hx fun itv s2 h2 => ?_) hs
  obtain ⟨it, fp, tn, J, H2, e, I2, T, st2, f2, ⟨ps, hP, htr, hlm⟩, q⟩ := h2
  subst e
  have hPs : s2.heap.get? P = some { cls := .none, data := .fields ps } := I2.hok P _ hP
  have cd : PySem.W.CodeHd s2.heap c P := TB.code.keeps I2.bk
  have sz : ∀ b ∈ fp, b < s2.heap.objs.size := fun b hb => by
    obtain ⟨o, e, _⟩ := T.obj _ _ st2 b hb
    exact Heap.lt_size e
  have nP : ∀ b ∈ fp, b ≠ P := fun b hb z => by
    have := (f2 b hb).1
    rw [z, hP] at this
    cases this
  refine ⟨I2.nolimit, ?_⟩
  -- behind the code object's making: the table is ps ++ more
  have cont : ∀ (code : Value) (h3 : Heap) (tk : Nat) (more : Array Value), Heap.ExtBut P s2.heap h3 → h3.get? P = some { cls := .none, data := .fields (ps ++ more) } → TriplesOk (ps ++ more).toList →
      wpAny (model X.prog X.w) X.A (builtinsFor X.env.globals X.env.builtins) (fun bi s4 =>
        ∀ h', h'.Ns s4.heap.objs.size (fun y => if y = ".0" then some (.ref it) else none) → Heap.SameBut s4.heap.objs.size (s4.heap.push { cls := .type "frame", data := .dict #[] }) h' →
          Q' (.ref h'.objs.size) { s4 with
            gens := s4.gens.push (.fresh (.compStart (.GeneratorExp elt [⟨tg, iter, ifs, 0⟩] scope gpos) 0 (.ref it) .none (genEnv scope (cloFrom X.env.cells scope.names []) s4.heap.objs.size code bi X.env))),
            toks := s4.toks + 1 + 1 + 1,
            heap := h'.push { cls := .type "generator", data := .fields #[.int s4.gens.size 0, .str "<genexpr>" (s4.toks + 1), .str (X.env.qual ++ "<genexpr>") (s4.toks + 1 + 1)] } }) X.xe { s2 with heap := h3, toks := tk } := by
    intro code h3 tk more hx hm htr3
    obtain ⟨bm, ob, e1, e2, e3, e4, e5, e6, e7, e8⟩ := TB.bm
    have J4 : L2.Inv X pins σ (upd H2 P (.tbl (ps ++ more))) { s2 with heap := h3, gens := s2.gens, drawn := s2.drawn, toks := tk } := GxR.inv_tab (more := more) I2 hP (fun b o hb e => hx b o hb e) hm I2.bare
    have f4 : ∀ b ∈ fp, FpOk X pins (upd H2 P (.tbl (ps ++ more))) b ∧ b < h3.objs.size := fun b hb => by
      obtain ⟨o, e, _⟩ := T.obj _ _ st2 b hb
      exact ⟨⟨by rw [upd_ne (nP b hb)]; exact (f2 b hb).1, (f2 b hb).2⟩, Heap.lt_size (hx b o (nP b hb) e)⟩
    have tn3 : tn 0 h3 := T.keep _ _ _ st2 fun b hb o e => hx b o (nP b hb) e
    refine wpAny_builtinsFor (m := X.mg) (by rw [I2.ok.glob]; exact (I2.mod.glob.keeps I2.bk).extBut hx TB.gP) e1 e2 (hx _ _ e4 (I2.bk _ _ e5)) e6 e7 e8 ?_
    intro h' hn' hs'
    have hsz : h'.objs.size = h3.objs.size + 1 := by rw [hs'.1, Heap.size_push]
    have kp : ∀ b o, h3.get? b = some o → h'.get? b = some o := fun b o e => hs'.extBut b o (Nat.ne_of_lt (Heap.lt_size e)) (Heap.get?_push_of_some _ e)
    refine fin J (upd H2 P (.tbl (ps ++ more))) it fp tn code { s2 with heap := h3, toks := tk } _ _ s2.gens.size (q _ ⟨⟨ps ++ more, upd_same, htr3, hlm⟩, fun b hb => upd_ne hb⟩) ⟨J4, f4, T, T.keep _ _ _ tn3 fun b hb o e => Heap.get?_push_of_some _ (kp b o e), ⟨_, _, _, Heap.get?_push_size _ rfl, rfl, rfl, rfl⟩, Array.getElem?_push_size .., fun A hA hF => ?_, by show h3.objs.size < h'.objs.size; omega, by show h'.objs.size < (h'.push _).objs.size; rw [Heap.size_push]; exact Nat.lt_succ_self _⟩
    exact gx_inv (s := { s2 with heap := h3, toks := tk }) S J4 f4 hA hF rfl hn' hs'
  cases hf : codeAmong gpos ps.toList with
  | none =>
    refine wpAny_genexprCodeX hcode (cd.code hPs htr) (cd.tab hPs) hf fun c' h' tk hx hge hlt hco' _ htab' _ => ?_
    obtain ⟨o1, vs, f1, tf, fl, tg', inF, tx, tt, op, _, _, _, _, _, _, _, _, _, htr', _⟩ := hco'
    exact cont _ h' tk _ hx htab'.2 htr'
  | some cv =>
    refine wpAny_genexprCode_hit hcode (cd.code hPs htr) hf ?_
    exact cont cv s2.heap s2.toks #[] (Heap.ExtBut.refl _ _) (by rw [Array.append_empty]; exact hPs) (by rw [Array.append_empty]; exact htr)
theorem over_frames {A : Around} {elt tg iter : Expr} {ifs : List Expr} {scope : Scope} {pos : Pos} {it : Value} {env : Env} {l : List Env} (h : A.frames = some l) :
    (A.over (.compLoop (.GeneratorExp elt [⟨tg, iter, ifs, 0⟩] scope pos) 0 it .none env) []).frames = some (env :: l) := by
  unfold Around.over
  simp only [h]
  rfl
theorem over_room {A : Around} {elt tg iter : Expr} {ifs : List Expr} {scope : Scope} {pos : Pos} {it : Value} {env : Env} {k : Nat} (r : Room (k + 1) A) :
    Room k (A.over (.compLoop (.GeneratorExp elt [⟨tg, iter, ifs, 0⟩] scope pos) 0 it .none env) []) :=
  ⟨r.hd, by have := r.dp; show A.depth + 0 + 1 + 3 * k + 5 < _; omega, by have := r.un; show A.units + 0 + 3 + 16 * k + 200 < _; omega⟩
/-- what the rules ask of a generator expression's parts -/
structure GxP (X : Cx) (k : Nat) (elt tg : Expr) (ifs : List Expr) (scope : Scope) (N : List Str) (g : TG) (tt : TT) (te : TE) : Prop where
  pg : ∀ (A : Around) (s : Shared) (G : Hp) (C : Addr) (code : Value) (fp : List Addr), PG (gcx X A N s G (gEnv X scope C code) fp) tg g
  pt : ∀ (A : Around) (s : Shared) (G : Hp) (C : Addr) (code : Value) (fp : List Addr), Room k A → PTs (gcx X A N s G (gEnv X scope C code) fp) ifs tt
  pe : ∀ (A : Around) (s : Shared) (G : Hp) (C : Addr) (code : Value) (fp : List Addr), Room k A → PE (gcx X A N s G (gEnv X scope C code) fp) elt te
/-- a turn's reading; end_: what is wanted behind the last, yl: at an item -/
def GxT {α : Type} (J : It) (g : TG) (tt : TT) (te : TE) (vs : List Nat) (σ0 : L2.St) (W : Nat → Nat → α → Hp → Prop) (yl : α → V → Hp → (α → Hp → Prop) → Prop) (dn : α → Hp → Prop) : Prop :=
  ∀ i m a H, W i m a H → (J.stop i H ∧ dn a H) ∨ (J.go i H ∧ ∃ Nx : α → Hp → Prop, (∀ a' H', Nx a' H' → ∃ m', m' < m ∧ W (i + 1) m' a' H') ∧
    ∀ x H1, J.yld i H x H1 → g x σ0 H1 fun σ2 H2 => wipe σ2 vs = σ0 ∧ tt σ2 H2 fun b H3 => if b = true then te σ2 H3 fun y H4 => yl a y H4 Nx else Nx a H3)
section
variable {α : Type} {elt tg iter : Expr} {ifs : List Expr} {scope : Scope} {gpos : Pos} {N : List Str} {src : List (Option Nat)} {J : It} {G : Hp} {it : Addr} {fp : List Addr} {tn : Nat → Heap → Prop} {code : Value} {s4 t : Shared} {ga : Addr} {g : Nat} {gg : TG} {tt : TT} {te : TE}
/-- the data of the generator with a consumer -/
abbrev Ready.dat (_ : Ready X pins σ elt tg iter ifs scope gpos N src J G it fp tn code s4 t ga g) (A : Around) (prot : List Addr) (Acc : α → Heap → Prop) (W : Nat → Nat → α → Hp → Prop) (Yl : α → V → Hp → (α → Hp → Prop) → Prop) (Dn : α → Hp → Prop) (vs : List Nat) : GxD α :=
  ⟨gcx X (A.in1.over (.compLoop (.GeneratorExp elt [⟨tg, iter, ifs, 0⟩] scope gpos) 0 (.ref it) .none (gEnv X scope s4.heap.objs.size code)) []) N s4 G (gEnv X scope s4.heap.objs.size code) fp, elt, tg, iter, ifs, scope, gpos, it, fp, tn, J, prot, Acc, W, Yl, Dn, wipe (gxσ src σ) vs, vs⟩
theorem Ready.live (R : Ready X pins σ elt tg iter ifs scope gpos N src J G it fp tn code s4 t ga g) {k : Nat} {A : Around} {C : List (Addr × Obj)} {Acc : α → Heap → Prop} {W : Nat → Nat → α → Hp → Prop} {Yl : α → V → Hp → (α → Hp → Prop) → Prop} {Dn : α → Hp → Prop} {vs : List Nat} {a : α} {m : Nat} {h' : Heap} {tk : Nat}
    (S : GxS X.N X.env.scope scope N src) (hp : GxP X k elt tg ifs scope N gg tt te) (room : Room (k + 1) A.in1) (hA : A.in1.frames = some X.stack) (ht : GxT J gg tt te vs (wipe (gxσ src σ) vs) W Yl Dn)
    (hk : ∀ b o, t.heap.get? b = some o → h'.get? b = some o) (hC : ∀ p ∈ C, h'.get? p.1 = some p.2 ∧ t.heap.objs.size ≤ p.1 ∧ ∀ v, p.2.data ≠ .cell v) (hacc : Acc a h') (hw : W 0 m a G) :
    (R.dat A (ga :: C.map (·.1)) Acc W Yl Dn vs).Ok gg tt te ∧ (R.dat A (ga :: C.map (·.1)) Acc W Yl Dn vs).Live A ga g (m + 1) a { t with heap := h', toks := tk } := by
  have hZ := R.inv (A.in1.over (.compLoop (.GeneratorExp elt [⟨tg, iter, ifs, 0⟩] scope gpos) 0 (.ref it) .none (gEnv X scope s4.heap.objs.size code)) []) room.hd (over_frames hA)
  have hZ2 : L2.Inv (gcx X (A.in1.over (.compLoop (.GeneratorExp elt [⟨tg, iter, ifs, 0⟩] scope gpos) 0 (.ref it) .none (gEnv X scope s4.heap.objs.size code)) []) N s4 G (gEnv X scope s4.heap.objs.size code) fp) [] (wipe (gxσ src σ) vs) G { t with heap := h', toks := tk } :=
    (hZ.weak (wipe_length _ _) fun j v e => (wipe_some e).1).kept (t' := tk) hk
  obtain ⟨og, nm, qn, hog, hcls, hdat, hsl⟩ := id R.isg
  have young : ∀ b, s4.heap.objs.size < b → G b = none ∧ b ≠ s4.heap.objs.size ∧ b ∉ frs X.stack := fun b hb => ⟨R.i4.hok.fresh (Nat.le_of_lt hb), Nat.ne_of_gt hb, fun z => by
    rcases List.mem_cons.mp (R.i4.stkSub b z) with z | z
    · rw [z] at hb
      exact absurd (Nat.lt_trans R.i4.lt hb) (Nat.lt_irrefl _)
    · exact R.i4.nofs (Nat.le_of_lt hb) z⟩
  have cY : ∀ p ∈ C, s4.heap.objs.size < p.1 := fun p hp' => Nat.lt_of_lt_of_le (Nat.lt_trans R.new R.lt) (hC p hp').2.1
  have ok : (R.dat A (ga :: C.map (·.1)) Acc W Yl Dn vs).Ok gg tt te := ⟨rfl, rfl, S.co, R.turn, hp.pg .., hp.pt _ _ _ _ _ _ (over_room room), hp.pe _ _ _ _ _ _ (over_room room), ht⟩
  have GI : (R.dat A (ga :: C.map (·.1)) Acc W Yl Dn vs).Inv ((ga, og) :: C) G { t with heap := h', toks := tk } := by
    refine ⟨rfl, hZ2.pins_of fun p hp' => ?_, fun b hb => ?_⟩
    · rcases List.mem_cons.mp hp' with rfl | hp'
      · obtain ⟨y1, y2, y3⟩ := young ga R.new
        exact ⟨hk _ _ hog, y1, y2, y3, fun v z => by rw [hdat] at z; cases z⟩
      · obtain ⟨y1, y2, y3⟩ := young p.1 (cY p hp')
        exact ⟨(hC p hp').1, y1, y2, y3, (hC p hp').2.2⟩
    · refine ⟨(R.fpX b hb).1.1, Nat.ne_of_lt (R.fpX b hb).2, hZ.ok.exfs b hb, .inl hb, (hZ.ok.exf b hb).2, fun p hp' z => ?_⟩
      have hb2 := (R.fpX b hb).2
      rcases List.mem_cons.mp (show p ∈ (ga, og) :: C from hp') with e | hp'
      · rw [← z, e] at hb2
        exact absurd (Nat.lt_trans R.new hb2) (Nat.lt_irrefl _)
      · rw [← z] at hb2
        exact absurd (Nat.lt_trans (cY p hp') hb2) (Nat.lt_irrefl _)
  refine ⟨ok, List.mem_cons_self, ⟨og, nm, qn, hk _ _ hog, hcls, hdat, hsl⟩, hacc, ⟨_, _, GI⟩, _, R.gen, rfl, ?_⟩
  exact gx_begin ok (A := A.in1) rfl (Nat.lt_succ_self m) (GI.setGen rfl) (R.turn.keep _ _ _ R.tn0 fun b _ o e => hk b o e) hacc hw
/-- back in the def -/
theorem Ready.back (R : Ready X pins σ elt tg iter ifs scope gpos N src J G it fp tn code s4 t ga g) {A : Around} {prot : List Addr} {Acc : α → Heap → Prop} {W : Nat → Nat → α → Hp → Prop} {Yl : α → V → Hp → (α → Hp → Prop) → Prop} {Dn : α → Hp → Prop} {vs : List Nat} {pn : List (Addr × Obj)} {H' : Hp} {s' : Shared}
    (GI : (R.dat A prot Acc W Yl Dn vs).Inv pn H' s') : L2.Inv X pins σ H' s' :=
  R.i4.call' (ch := fp) GI.2.1.os GI.2.1.base GI.2.1.hok GI.2.1.bare fun b hb => ⟨(R.fpX b hb).1.2.2.2.1, (R.fpX b hb).1.2.1, (R.fpX b hb).1.2.2.2.2.1, (R.fpX b hb).1.2.2.2.2.2⟩
end
/-- all(elt for ..), any(elt for ..), sum(elt for ..) -/
def tAllG (P : Addr) (stop : Bool) (wi : TI) (g : TG) (tt : TT) (te : TE) (src : List (Option Nat)) (vs : List Nat) : TE := fun σ H Q => wi σ H fun J H1 => TabG H1 P ∧ ∀ H2, Tabd P H1 H2 →
  ∃ W : Nat → Nat → Hp → Prop, (∃ m, W 0 m H2) ∧ GxT (α := Unit) J g tt te vs (wipe (gxσ src σ) vs) (fun i m _ H => W i m H) (ylAll stop fun H' => Q (.bl stop) H') (fun _ H' => Q (.bl !stop) H')
section
variable {c P : Addr} {elt tg iter : Expr} {ifs : List Expr} {scope : Scope} {gpos p pos : Pos} {N : List Str} {src : List (Option Nat)} {wi : TI} {g : TG} {tt : TT} {te : TE} {k : Nat} {vs : List Nat}
theorem pe_all (hr : Room (k + 3) X.A) (hg : Gl X "all") (hm : X.mg "all" = none) (hb : bootBuiltins "all" = some (.builtin "all")) (TB : LamX.TabB X.base X.mg c P) (hcode : X.env.code = .ref c) (S : GxS X.N X.env.scope scope N src) (hi : PI X tg iter wi) (hp : GxP X k elt tg ifs scope N g tt te)
    (hs : ∀ v, genFold iter X.env v = pure v := by intro _; rfl)
    (he : starEach [.GeneratorExp elt [⟨tg, iter, ifs, 0⟩] scope gpos] X.env = (false, eval (.GeneratorExp elt [⟨tg, iter, ifs, 0⟩] scope gpos) X.env) :: starEach [] X.env := by rfl) :
    PE X (.Call (.Name "all" p) [.GeneratorExp elt [⟨tg, iter, ifs, 0⟩] scope gpos] [] pos) (tAllG P false wi g tt te src vs) := by
  refine ⟨fun pins s σ H Q I h => ?_⟩
  refine wpAny_Call_Name_kw (ld_blt I hg hm hb (PyProof.Rows.callWith_builtin1 ?_ he (by rfl)))
  rw [he]
  show wpAny _ _ (spliced ((false, eval (.GeneratorExp elt [⟨tg, iter, ifs, 0⟩] scope gpos) X.env) :: backTo pos (starEach [] X.env))) _ _ s
  refine Calls.spliced_cons (gx_make hr TB hcode S hi hs I h fun J G it fp tn code s4 t ga gn q R => Calls.spliced_nil ?_)
  obtain ⟨W, ⟨m, w0⟩, ht⟩ := q
  have r1 : Room (k + 2) X.A.in1 := hr.in1
  have r2 : Room (k + 1) X.A.in1.in1 := r1.in1
  obtain ⟨ok, L⟩ := R.live (A := X.A.in1) (C := []) (Acc := fun _ _ => True) (a := ()) (m := m) (h' := t.heap) (tk := t.toks) S hp r2 I.ok.frames ht (fun _ _ e => e) (fun _ z => nomatch z) trivial w0
  refine call_function_tree F.kind_all F.plain_all F.entry_all (F.args_all1 _) ?_
  unfold Builtin.«all»
  refine wpAny_bind (m := oneArg "all" _) (wpAny_pure ?_)
  refine wpAny_bind (wpAny_pyIter_gen R.isg ?_)
  refine wpAny_pure ⟨plainId_quiet F.plain_all_loop _, all_loop (A := X.A) hr.hd hr.depth rfl rfl (fun pn H' t' GI dn => ?_) (fun pn H' t' GI q => ?_) (m + 1) t L⟩
  · exact ⟨.bl true, H', R.back GI, rfl, dn⟩
  · exact ⟨.bl false, H', R.back GI, rfl, q⟩
end
end
/-- by a look at the names -/
def gxsB (XN : List Str) (xsc scope : Scope) (N : List Str) (src : List (Option Nat)) : Bool :=
  decide (scope.kind = .function) && (!scope.isCoroutine && ((scope.names.all fun y => decide (y.2 ≠ .cell)) && (decide (scope.names.lookup (".0" : Str) = some NameKind.local) &&
  ((scope.names.all fun y => decide (y.2 ≠ .free) || decide (xsc.names.lookup y.1 = some .cell) || decide (xsc.names.lookup y.1 = some .free)) && (decide (src.length = N.length) && (decide N.Nodup &&
  (List.range src.length).all fun i => match src[i]? with
    | some (some j) => (match N[i]? with
      | some x => decide (XN[j]? = some x) && decide (scope.names.lookup x = some .free)
      | none => false)
    | _ => true))))))
theorem gxs_of {XN : List Str} {xsc scope : Scope} {N : List Str} {src : List (Option Nat)} (h : gxsB XN xsc scope N src = true) : GxS XN xsc scope N src := by
  unfold gxsB at h
  simp only [Bool.and_eq_true, decide_eq_true_eq, Bool.not_eq_true', List.all_eq_true, Bool.or_eq_true] at h
  obtain ⟨h1, h2, h3, h4, h5, h6, h7, h8⟩ := h
  refine ⟨h1, h2, h3, h4, fun y hy e => ?_, h6, h7, fun i j e => ?_⟩
  · rcases h5 y hy with (z | z) | z
    · exact absurd e z
    · exact .inl z
    · exact .inr z
  · have hi : i < src.length := (List.getElem?_eq_some_iff.mp e).1
    have q := h8 i (List.mem_range.mpr hi)
    rw [e] at q
    cases hn : N[i]? with
    | none => rw [hn] at q; cases q
    | some x =>
      rw [hn] at q
      obtain ⟨q1, q2⟩ := Bool.and_eq_true_iff.mp q
      exact ⟨x, rfl, of_decide_eq_true q1, of_decide_eq_true q2⟩
end FF
namespace FF
open PySem PySem.Spec PyProof.Rows L2
variable [LT]
/-! ### tuple(elt for ..) -/
section
variable {α : Type}
end
section
variable {X : Cx} {pins : List (Addr × Obj)} {σ : L2.St} {elt tg iter : Expr} {ifs : List Expr} {scope : Scope} {gpos : Pos} {N : List Str} {src : List (Option Nat)} {J : It} {G : Hp} {it : Addr} {fp : List Addr} {tn : Nat → Heap → Prop} {code : Value} {s4 t : Shared} {ga : Addr} {g : Nat} {gg : TG} {tt : TT} {te : TE}
end
section
variable {X : Cx} {c P : Addr} {elt tg iter : Expr} {ifs : List Expr} {scope : Scope} {gpos p pos : Pos} {N : List Str} {src : List (Option Nat)} {wi : TI} {g : TG} {tt : TT} {te : TE} {k : Nat} {vs : List Nat}
end
end FF
namespace FF
open PySem PySem.Spec PyProof.Rows L2
variable [LT]
/-! ### defs of the text -/
structure DefAt (K : PySem.W.Frag) (mg : Str → Option Value) (x : Str) (st : Stmt) (ps : List Str) (f : Addr) (fd : FuncData) : Prop where
  F : FunD K x x (defArgs st) (defBody st) (defScope st) [] [] f fd
  g : mg x = some (.ref f)
  b : Binds K fd ps []
theorem DefAt.ok {P : Program} {w : World} {K : PySem.W.Frag} {mg : Str → Option Value} {base : Heap} {x : Str} {st : Stmt} {f : Addr} {fd : FuncData} {N ps : List Str} {k : Nat} {sp : Sp} (D : DefAt K mg x st ps f fd) (S : FnScope N ps (defScope st)) (len : ∀ vs H Q E, sp vs H Q E → vs.length = ps.length)
    (hbody : ∀ (A : Around) (outer : List Env) (s : Shared) (H : Hp) (vs : List V) (Q : VK) (E : XK), Room k (A.deeper (envOfC x (defScope st) s.heap.objs.size f fd.code)) → sp vs H Q E →
      ∃ t, PSs (cxOf CX0 P w K mg base N x (defScope st) f fd.code A outer s H E).nox (defBody st) t ∧ t { nx := fun _ H' => Q .non H', rt := Q } (start N vs) H) : FnOk P w K mg base CX0 (k + 1) f fd ps sp := by
  obtain ⟨oc, od, dV, kV, doc, pm, an, cdv, ct, osl, rfl, lk, hcd, _, _⟩ := D.F.ex
  refine fn_of lk hcd S len fun A outer s H vs Q E hr hsp => ?_
  obtain ⟨t, h, q⟩ := hbody A outer s H vs Q E hr hsp
  exact ⟨t, h.nox, q⟩
/-! ### heaps: what stays -/
/-- but for the addresses in S all that is tracked stays; tables stay tables -/
structure Kx (S : Addr → Prop) (H H' : Hp) : Prop where
  at_ : ∀ b o, H b = some o → (∀ ps, o ≠ .tbl ps) → ¬ S b → H' b = some o
  tab : ∀ b, TabG H b → TabG H' b
  dom : ∀ b, H' b = none → H b = none
  lam : ∀ b ps, LT.lam b = true → ¬ S b → H b = some (.tbl ps) → H' b = some (.tbl ps)
theorem upd_none {H : Hp} {p b : Addr} {o : HO} (h : upd H p o b = none) : b ≠ p ∧ H b = none := by
  by_cases e : b = p
  · rw [e, upd_same] at h
    cases h
  · rw [upd_ne e] at h
    exact ⟨e, h⟩
abbrev Ke := Kx fun _ => False
theorem Kx.refl {S : Addr → Prop} {H : Hp} : Kx S H H := ⟨fun _ _ h _ _ => h, fun _ h => h, fun _ h => h, fun _ _ _ _ h => h⟩
theorem Kx.trans {S : Addr → Prop} {H H1 H2 : Hp} (a : Kx S H H1) (b : Kx S H1 H2) : Kx S H H2 := ⟨fun c o h n q => b.at_ c o (a.at_ c o h n q) n q, fun c h => b.tab c (a.tab c h), fun c h => a.dom c (b.dom c h), fun c ps l n h => b.lam c ps l n (a.lam c ps l n h)⟩
theorem Kx.mono {S S' : Addr → Prop} {H H1 : Hp} (a : Kx S H H1) (h : ∀ b, S b → S' b) : Kx S' H H1 := ⟨fun c o e n q => a.at_ c o e n fun z => q (h c z), a.tab, a.dom, fun c ps l n e => a.lam c ps l (fun z => n (h c z)) e⟩
theorem Ke.to {S : Addr → Prop} {H H1 : Hp} (a : Ke H H1) : Kx S H H1 := a.mono fun _ z => z.elim
theorem Ke.new {S : Addr → Prop} {H : Hp} {p : Addr} {o : HO} (h : H p = none) : Kx S H (upd H p o) :=
  ⟨fun b u e _ _ => by rw [upd_ne (ne_of_none e h)]; exact e, fun b ⟨ps, e, t⟩ => ⟨ps, by rw [upd_ne (ne_of_none e h)]; exact e, t⟩, fun _ e => (upd_none e).2, fun b ps _ _ e => by rw [upd_ne (ne_of_none e h)]; exact e⟩
theorem Kx.over {S : Addr → Prop} {H H1 : Hp} {p : Addr} {o : HO} (k : Kx S H H1) (h : H p = none) : Kx S H (upd H1 p o) :=
  ⟨fun b u e n q => by rw [upd_ne (ne_of_none e h)]; exact k.at_ b u e n q, fun b t => by
    obtain ⟨ps, e, z⟩ := k.tab b t
    obtain ⟨ps0, e0, _⟩ := t
    exact ⟨ps, by rw [upd_ne (ne_of_none e0 h)]; exact e, z⟩, fun _ e => k.dom _ (upd_none e).2, fun b ps l n e => by rw [upd_ne (ne_of_none e h)]; exact k.lam b ps l n e⟩
theorem Ke.put {H : Hp} {p : Addr} {o u : HO} (h : H p = some u) (hu : ∀ ps, u ≠ .tbl ps) : Kx (fun b => b = p) H (upd H p o) :=
  ⟨fun b v e _ q => by rw [upd_ne q]; exact e, fun b ⟨ps, e, t⟩ => ⟨ps, by rw [upd_ne (ne_of e h fun z => hu ps z.symm)]; exact e, t⟩, fun _ e => (upd_none e).2, fun b ps _ q e => by rw [upd_ne q]; exact e⟩
theorem Ke.tabd {P : Addr} {H H1 : Hp} (h : TabG H P) (t : Tabd P H H1) : Ke H H1 := by
  obtain ⟨ps, hp, _, hl⟩ := h
  refine ⟨fun b o e n _ => (t.2 b fun z => ?_).trans e, fun b ⟨qs, e, q⟩ => ?_, fun b e => ?_, fun b qs l _ e => (t.2 b fun z => ?_).trans e⟩
  · rw [z, hp] at e
    exact n ps (Option.some.inj e).symm
  · by_cases hb : b = P
    · rw [hb]
      exact t.1
    · exact ⟨qs, (t.2 b hb).trans e, q⟩
  · by_cases hb : b = P
    · obtain ⟨qs, z, _⟩ := t.1
      rw [hb, z] at e
      cases e
    · exact (t.2 b hb).symm.trans e
  · rw [z, hl] at l
    cases l
theorem Ke.lst {H H' : Hp} (a : Ke H H') {p : Addr} {xs : List V} (h : H p = some (.lst xs)) : H' p = some (.lst xs) := a.at_ p _ h (fun _ z => nomatch z) fun z => z
theorem Kx.tup {S : Addr → Prop} {H H' : Hp} (a : Kx S H H') {p : Addr} {xs : List V} (h : H p = some (.tup xs)) (n : ¬ S p) : H' p = some (.tup xs) := a.at_ p _ h (fun _ z => nomatch z) n
theorem Ke.tup {H H' : Hp} (a : Ke H H') {p : Addr} {xs : List V} (h : H p = some (.tup xs)) : H' p = some (.tup xs) := a.at_ p _ h (fun _ z => nomatch z) fun z => z
theorem Kx.seqL {S : Addr → Prop} {K : PySem.W.Frag} {H H' : Hp} {p : Addr} {xs : List V} (a : Kx S H H') (h : SqL K H p xs) (n : ¬ S p) : SqL K H' p xs := by
  rcases h with (h | ⟨o, h⟩) | h
  · exact .inl (.inl (a.at_ _ _ h (fun _ z => nomatch z) n))
  · exact .inl (.inr ⟨o, a.at_ _ _ h (fun _ z => nomatch z) n⟩)
  · exact .inr h
theorem sqT_of {K : PySem.W.Frag} {H : Hp} {p : Addr} {xs : List V} (h : H p = some (.tup xs)) : SqT K H p xs := .inl (.inl h)
theorem sqL_of {K : PySem.W.Frag} {H : Hp} {p : Addr} {xs : List V} (h : H p = some (.lst xs)) : SqL K H p xs := .inl (.inl h)
/-! ### the deck of drawn numbers -/
def Dig (ds : List Int) : Prop := ∀ d ∈ ds, 0 ≤ d ∧ d < 1000
def Deck (H : Hp) (p : Addr) : Prop := ∃ ds : List Int, H p = some (.lst (ds.map V.int)) ∧ Dig ds
/-- numbers were drawn; besides nothing has changed but what is new -/
structure Dk (p : Addr) (H H' : Hp) : Prop where
  k : Kx (fun b => b = p) H H'
  d : Deck H' p
theorem Dk.refl {p : Addr} {H : Hp} (d : Deck H p) : Dk p H H := ⟨.refl, d⟩
theorem Dk.trans {p : Addr} {H H1 H2 : Hp} (a : Dk p H H1) (b : Dk p H1 H2) : Dk p H H2 := ⟨a.k.trans b.k, b.d⟩
theorem Deck.ke {H H' : Hp} {p : Addr} (d : Deck H p) (a : Ke H H') : Deck H' p := by
  obtain ⟨ds, h, g⟩ := d
  exact ⟨ds, a.lst h, g⟩
theorem Dk.ke {p : Addr} {H H1 H2 : Hp} (a : Dk p H H1) (b : Ke H1 H2) : Dk p H H2 := ⟨a.k.trans b.to, a.d.ke b⟩
theorem Dk.new {p q : Addr} {H H1 : Hp} {o : HO} (a : Dk p H H1) (h : H1 q = none) : Dk p H (upd H1 q o) := a.ke (Ke.new h)
theorem Deck.new {p q : Addr} {H : Hp} {o : HO} (a : Deck H p) (h : H q = none) : Deck (upd H q o) p := a.ke (Ke.new h)
theorem Dk.tup {p q : Addr} {H H1 : Hp} {xs : List V} (a : Dk p H H1) (d : Deck H p) (h : H q = some (.tup xs)) : H1 q = some (.tup xs) := by
  obtain ⟨ds, hd, _⟩ := d
  exact a.k.tup h (ne_of h hd (fun z => nomatch z))
theorem Dk.lst {p q : Addr} {H H1 : Hp} {xs : List V} (a : Dk p H H1) (h : H q = some (.lst xs)) (n : q ≠ p) : H1 q = some (.lst xs) := a.k.at_ q _ h (fun _ z => nomatch z) n
theorem Dk.seqL {K : PySem.W.Frag} {p q : Addr} {H H1 : Hp} {xs : List V} (a : Dk p H H1) (h : SqL K H q xs) (n : q ≠ p) : SqL K H1 q xs := a.k.seqL h n
/-! ### webs -/
def Ties (H : Hp) (rs : List V) (ts : List (Int × Int)) : Prop := Paired (fun (r : V) (t : Int × Int) => ∃ q, r = .ref q ∧ H q = some (.tup [.int t.1, .int t.2])) rs ts
def Web (H : Hp) (v : V) (n : Int) (ts : List (Int × Int)) : Prop := ∃ t u rs, v = .ref t ∧ H t = some (.tup [.int n, .ref u]) ∧ H u = some (.tup rs) ∧ Ties H rs ts
theorem Ties.mono {H H' : Hp} {rs : List V} {ts : List (Int × Int)} (h : Ties H rs ts) (k : ∀ q xs, H q = some (.tup xs) → H' q = some (.tup xs)) : Ties H' rs ts := L2.Paired.mapP h fun _ _ ⟨q, e, z⟩ => ⟨q, e, k q _ z⟩
theorem Web.mono {H H' : Hp} {v : V} {n : Int} {ts : List (Int × Int)} (h : Web H v n ts) (k : ∀ q xs, H q = some (.tup xs) → H' q = some (.tup xs)) : Web H' v n ts := by
  obtain ⟨t, u, rs, e, h1, h2, h3⟩ := h
  exact ⟨t, u, rs, e, k _ _ h1, k _ _ h2, h3.mono k⟩
theorem Ties.ke {H H' : Hp} {rs : List V} {ts : List (Int × Int)} (h : Ties H rs ts) (k : Ke H H') : Ties H' rs ts := h.mono fun _ _ => k.tup
theorem Web.ke {H H' : Hp} {v : V} {n : Int} {ts : List (Int × Int)} (h : Web H v n ts) (k : Ke H H') : Web H' v n ts := h.mono fun _ _ => k.tup
theorem Ties.dk {H H' : Hp} {p : Addr} {rs : List V} {ts : List (Int × Int)} (h : Ties H rs ts) (k : Dk p H H') (d : Deck H p) : Ties H' rs ts := h.mono fun _ _ => k.tup d
theorem Web.dk {H H' : Hp} {p : Addr} {v : V} {n : Int} {ts : List (Int × Int)} (h : Web H v n ts) (k : Dk p H H') (d : Deck H p) : Web H' v n ts := h.mono fun _ _ => k.tup d
theorem Ties.append {H : Hp} : ∀ {rs qs : List V} {ts us : List (Int × Int)}, Ties H rs ts → Ties H qs us → Ties H (rs ++ qs) (ts ++ us)
  | _, _, _, _, .nil, b => b
  | _, _, _, _, .cons r t, b => .cons r (Ties.append t b)
theorem Ties.take {H : Hp} : ∀ {rs : List V} {ts : List (Int × Int)} (n : Nat), Ties H rs ts → Ties H (rs.take n) (ts.take n)
  | _, _, 0, _ => .nil
  | _, _, _ + 1, .nil => .nil
  | _, _, n + 1, .cons r t => .cons r (Ties.take n t)
theorem Ties.drop {H : Hp} : ∀ {rs : List V} {ts : List (Int × Int)} (n : Nat), Ties H rs ts → Ties H (rs.drop n) (ts.drop n)
  | _, _, 0, h => h
  | _, _, _ + 1, .nil => .nil
  | _, _, n + 1, .cons _ t => Ties.drop n t
theorem Ties.length {H : Hp} {rs : List V} {ts : List (Int × Int)} (h : Ties H rs ts) : rs.length = ts.length := Paired.length h
theorem Ties.get {H : Hp} : ∀ {rs : List V} {ts : List (Int × Int)} {i : Nat} {r : V}, Ties H rs ts → rs[i]? = some r → ∃ t q, ts[i]? = some t ∧ r = .ref q ∧ H q = some (.tup [.int t.1, .int t.2])
  | _, _, _, _, .nil, e => by simp at e
  | _, _, 0, _, .cons (b := t) ⟨q, e1, e2⟩ _, e => by simp at e; subst e; exact ⟨t, q, rfl, e1, e2⟩
  | _, _, i + 1, r, .cons _ t, e => by
    obtain ⟨u, q, h1, h2, h3⟩ := Ties.get (i := i) (r := r) t (by simpa using e)
    exact ⟨u, q, by simpa using h1, h2, h3⟩
theorem Deck.put {H : Hp} {p q : Addr} {o : HO} (d : Deck H p) (n : p ≠ q) : Deck (upd H q o) p := by
  obtain ⟨ds, h, g⟩ := d
  exact ⟨ds, by rw [upd_ne n]; exact h, g⟩
theorem Deck.ne {H : Hp} {p q : Addr} (d : Deck H p) (h : H q = none) : p ≠ q := by
  obtain ⟨ds, e, _⟩ := d
  exact ne_of_none e h
theorem Dk.over {p q : Addr} {H G : Hp} {o : HO} (k : Dk p H G) (d : Deck H p) (h : H q = none) : Dk p H (upd G q o) := ⟨k.k.over h, k.d.put (d.ne h)⟩
theorem Ties.new {H : Hp} {p : Addr} {o : HO} {rs : List V} {ts : List (Int × Int)} (h : Ties H rs ts) (n : H p = none) : Ties (upd H p o) rs ts := h.mono fun q xs e => by rw [upd_ne (ne_of_none e n)]; exact e
theorem Ties.put {H : Hp} {p : Addr} {o : HO} {zs : List V} {rs : List V} {ts : List (Int × Int)} (h : Ties H rs ts) (n : H p = some (.lst zs)) : Ties (upd H p o) rs ts := h.mono fun q xs e => by rw [upd_ne (ne_of e n (fun z => nomatch z))]; exact e
theorem Ties.one {H : Hp} {q : Addr} {a b : Int} (h : H q = some (.tup [.int a, .int b])) : Ties H [.ref q] [(a, b)] := .cons ⟨q, rfl, h⟩ .nil
/-- a list of ties stands at l -/
def TL (H : Hp) (l : Addr) (ts : List (Int × Int)) : Prop := ∃ rs, H l = some (.lst rs) ∧ Ties H rs ts
def TOk (n : Int) (ts : List (Int × Int)) : Prop := ∀ t ∈ ts, 0 ≤ t.1 ∧ t.1 < t.2 ∧ t.2 < n
theorem TOk.nil {n : Int} : TOk n [] := fun _ z => nomatch z
theorem TOk.append {n : Int} {ts us : List (Int × Int)} (a : TOk n ts) (b : TOk n us) : TOk n (ts ++ us) := fun t ht => (List.mem_append.mp ht).elim (a t) (b t)
theorem TOk.one {n a b : Int} (h0 : 0 ≤ a) (h1 : a < b) (h2 : b < n) : TOk n [(a, b)] := fun t ht => by rw [List.mem_singleton.mp ht]; exact ⟨h0, h1, h2⟩
theorem TL.ke {H H' : Hp} {l : Addr} {ts : List (Int × Int)} (h : TL H l ts) (k : Ke H H') : TL H' l ts := by
  obtain ⟨rs, e, t⟩ := h
  exact ⟨rs, k.lst e, t.ke k⟩
theorem TL.dk {H H' : Hp} {l p : Addr} {ts : List (Int × Int)} (h : TL H l ts) (k : Dk p H H') (d : Deck H p) (n : l ≠ p) : TL H' l ts := by
  obtain ⟨rs, e, t⟩ := h
  exact ⟨rs, k.lst e n, t.dk k d⟩
end FF
namespace FF
open PySem PySem.Spec PyProof.Rows L2
variable [LT]
/-! ### the code object of a def -/
theorem code_at {K : PySem.W.Frag} {x q : Str} {pa : Arguments} {bd : List Stmt} {sc : Scope} {dvs : List V} {kws : List (Str × V)} {f : Addr} {fd : FuncData} (F : FunD K x q pa bd sc dvs kws f fd) : ∃ c, fd.code = .ref c := by
  obtain ⟨oc, od, dV, kV, doc, pm, an, cdv, ct, osl, rfl, lk, hcd, _, _⟩ := F.ex
  exact He.codeIn_ref hcd
theorem code_is {K : PySem.W.Frag} {x q : Str} {pa : Arguments} {bd : List Stmt} {sc : Scope} {dvs : List V} {kws : List (Str × V)} {p : Str × Option Str} {fd : FuncData} {c : Addr} (F : FunD K x q pa bd sc dvs kws (He.fAd K p) fd) (h : fd.code = .ref c) : fd.code = .ref (He.cT K p).1 := by
  obtain ⟨oc, od, dV, kV, doc, pm, an, cdv, ct, osl, rfl, lk, hcd, _, _⟩ := F.ex
  rw [h]
  exact congrArg Value.ref (He.codeOf_eq lk h).symm
/-! ### slices -/
theorem cut_to (xs : List V) (n : Nat) : cutV xs none (some (n : Int)) = xs.take n := by
  unfold cutV
  rw [HT.sIx_none, HT.sIx_nat]
  show (xs.drop 0).take (min n xs.length - 0) = xs.take n
  rw [List.drop_zero, Nat.sub_zero]
  rcases Nat.le_total n xs.length with h | h
  · rw [Nat.min_eq_left h]
  · rw [Nat.min_eq_right h, List.take_of_length_le (Nat.le_refl _), List.take_of_length_le h]
theorem cut_from (xs : List V) (n : Nat) : cutV xs (some (n : Int)) none = xs.drop n := by
  unfold cutV
  rw [HT.sIx_none, HT.sIx_nat]
  rcases Nat.le_total n xs.length with h | h
  · rw [Nat.min_eq_left h, List.take_of_length_le (by rw [List.length_drop]; omega)]
  · rw [Nat.min_eq_right h, Nat.sub_self, List.take_zero, List.drop_of_length_le h]
theorem cut_to' (xs : List V) {i : Int} (h : 0 ≤ i) : cutV xs none (some i) = xs.take i.toNat := by
  rw [← cut_to, Int.toNat_of_nonneg h]
theorem line_big : 16000000 ≤ sizeLine := by decide
theorem emod_bds (x : Int) {n : Int} (h : 0 < n) : 0 ≤ x % n ∧ x % n < n := ⟨Int.emod_nonneg _ (by omega), Int.emod_lt_of_pos _ h⟩
theorem get_int {xs : List Int} {i : Nat} (h : i < xs.length) : (xs.map V.int)[i]? = some (.int xs[i]) := by
  rw [List.getElem?_map, List.getElem?_eq_getElem h]
  rfl
theorem at_int {xs : List Int} {i : Int} (h0 : 0 ≤ i) (h1 : i < xs.length) : ∃ v, v ∈ xs ∧ xs[i.toNat]? = some v ∧ atI (xs.map V.int) i = some (.int v) := by
  obtain ⟨j, rfl⟩ : ∃ j : Nat, i = j := ⟨i.toNat, by omega⟩
  have hj : j < xs.length := by omega
  exact ⟨xs[j], List.getElem_mem _, List.getElem?_eq_getElem hj, atI_nat (get_int hj)⟩
theorem ix_in {n : Nat} {i : Int} (h0 : 0 ≤ i) (h1 : i < n) : ixN n i = some i.toNat := by
  unfold ixN
  rw [if_pos h0, if_pos h1]
theorem yes_ite {σ : L2.St} {H : Hp} {A B : Hp → Prop} (h : A H) : tYes σ H (fun b H3 => if b = true then A H3 else B H3) := by
  show if true = true then A H else B H
  rw [if_pos rfl]
  exact h
theorem int_at {ns : List Int} {i : Nat} {x : V} (hx : (ns.map V.int)[i]? = some x) : ∃ v, ns[i]? = some v ∧ x = .int v := by
  rw [List.getElem?_map] at hx
  cases e : ns[i]? with
  | none => rw [e] at hx; cases hx
  | some v => rw [e] at hx; exact ⟨v, rfl, (Option.some.inj hx).symm⟩
theorem Ties.rep {H : Hp} {q : Addr} {a b : Int} (h : H q = some (.tup [.int a, .int b])) : ∀ k : Nat, Ties H (List.replicate k [V.ref q]).flatten (List.replicate k (a, b))
  | 0 => .nil
  | k + 1 => by
    rw [List.replicate_succ, List.replicate_succ, List.flatten_cons]
    exact .cons ⟨q, rfl, h⟩ (Ties.rep h k)
theorem TOk.rep {n a b : Int} (h0 : 0 ≤ a) (h1 : a < b) (h2 : b < n) (k : Nat) : TOk n (List.replicate k (a, b)) := fun t ht => by
  rw [List.eq_of_mem_replicate ht]
  exact ⟨h0, h1, h2⟩
theorem TOk.mono {n m : Int} {ts : List (Int × Int)} (h : TOk n ts) (k : n ≤ m) : TOk m ts := fun t ht => ⟨(h t ht).1, (h t ht).2.1, Int.lt_of_lt_of_le (h t ht).2.2 k⟩
theorem TOk.sub {n : Int} {ts us : List (Int × Int)} (h : TOk n ts) (k : ∀ t ∈ us, t ∈ ts) : TOk n us := fun t ht => h t (k t ht)
theorem ne_one {a b : Int} (h : ¬ decide (V.int a = V.int b) = true) : a ≠ b := fun e => h (decide_eq_true (by rw [e]))
theorem lst_new {H : Hp} {p q : Addr} {o : HO} {xs : List V} (n : H p = none) (h : H q = some (.lst xs)) : upd H p o q = some (.lst xs) := by rw [upd_ne (ne_of_none h n)]; exact h
theorem tup_new {H : Hp} {p q : Addr} {o : HO} {xs : List V} (n : H p = none) (h : H q = some (.tup xs)) : upd H p o q = some (.tup xs) := by rw [upd_ne (ne_of_none h n)]; exact h
/-! ### things of any kind -/
inductive TyN (H : Hp) : V → String → Prop where
  | non : TyN H .non "NoneType"
  | bl (b : Bool) : TyN H (.bl b) "bool"
  | int (i : Int) : TyN H (.int i) "int"
  | str (x : Str) : TyN H (.str x) "str"
  | lst {a : Addr} {xs : List V} (h : H a = some (.lst xs)) : TyN H (.ref a) "list"
  | tup {a : Addr} {xs : List V} (h : H a = some (.tup xs)) : TyN H (.ref a) "tuple"
  | dic {a : Addr} {kvs : List (Key × V)} (h : H a = some (.dK kvs)) : TyN H (.ref a) "dict"
theorem TyN.x {K : PySem.W.Frag} {H : Hp} {v : V} {n : String} (h : TyN H v n) : TyX K H v (.type n) := by
  cases h with
  | non => exact .base .non
  | bl b => exact .base (.bl b)
  | int i => exact .base (.int i)
  | str x => exact .base (.str x)
  | lst h => exact .base (.lst h)
  | tup h => exact .base (.tup h)
  | dic h => exact .base (.dK h)
def isNum (v : V) (lo hi : Int) : Bool := match v with
  | .int i => decide (lo ≤ i) && decide (i ≤ hi)
  | _ => false
theorem iteB {b : Bool} {A B : Prop} (h1 : b = true → A) (h2 : b = false → B) : if b = true then A else B := by
  cases b with
  | true => exact iteT (h1 rfl)
  | false => exact iteF (h2 rfl)
/-- the names of the kinds -/
def isiB (n : String) (c : String) : Bool := n == c || (n == "bool" && c == "int")
theorem TyN.isi {K : PySem.W.Frag} {H : Hp} {v : V} {n : String} (h : TyN H v n) {c : String} (hc : c = "int" ∨ c = "bool" ∨ c = "tuple" ∨ c = "list") : PySem.W.kitOne K (.type n) (.type c) = some (isiB n c) := by
  rcases hc with rfl | rfl | rfl | rfl <;> cases h <;> exact kit_ty (by decide +kernel)
end FF
namespace FF
open PySem PySem.Spec PyProof.Rows L2
variable [LT]
/-! ### walks of generator expressions -/
section
variable {α : Type} {K : PySem.W.Frag} {u : Addr} {xs : List V} {g : TG} {tt : TT} {te : TE} {vs : List Nat} {σ0 : L2.St} {yl : α → V → Hp → (α → Hp → Prop) → Prop} {dn : α → Hp → Prop} {G : Hp} {a0 : α}
end
/-! ### ties within a lot -/
def inside (ls : List Int) (ts : List (Int × Int)) : Nat := (ts.filter fun t => decide (t.1 ∈ ls) && decide (t.2 ∈ ls)).length
theorem inside_take {ls : List Int} {ts : List (Int × Int)} {i : Nat} {t : Int × Int} (h : ts[i]? = some t) : inside ls (ts.take (i + 1)) = inside ls (ts.take i) + if (decide (t.1 ∈ ls) && decide (t.2 ∈ ls)) = true then 1 else 0 := by
  unfold inside
  rw [List.take_succ, h, List.filter_append, List.length_append]
  congr 1
  show (List.filter _ [t]).length = _
  rw [List.filter_cons]
  split <;> rfl
theorem inside_le (ls : List Int) (ts : List (Int × Int)) : inside ls ts ≤ ts.length := List.length_filter_le _ _
theorem flat_ints (ls : List Int) : (ls.map V.int).all flatV = true := by
  rw [List.all_eq_true]
  intro v hv
  obtain ⟨i, _, rfl⟩ := List.mem_map.mp hv
  rfl
theorem inV_int (a : Int) (ls : List Int) : inV (.int a) (ls.map V.int) = decide (a ∈ ls) := by
  unfold inV
  rw [List.any_map]
  induction ls with
  | nil => rfl
  | cons x r ih =>
    rw [List.any_cons, ih]
    have e : ((fun y => eqV y (V.int a)) ∘ V.int) x = decide (x = a) := rfl
    rw [e]
    by_cases hx : x = a
    · subst hx
      simp
    · have : ¬ a = x := fun z => hx z.symm
      simp [hx, this]
end FF
namespace FF
open PySem PySem.Spec PyProof.Rows L2
variable [LT]
/-! ### rules that speak of the written part, by its own letter (for the blocks of comprehensions) -/
section
variable {X : Cx} {K : PySem.W.Frag}
theorem in_seqK (h : X.K = K := by rfl) : OpR X (compareOp .In) (rIn K false) := h ▸ op_in_seq
theorem notIn_seqK (h : X.K = K := by rfl) : OpR X (compareOp .NotIn) (rIn K true) := h ▸ op_notIn_seq
theorem ix_listK (h : X.K = K := by rfl) : IxR X (rIxL K) := h ▸ ix_list
theorem ix_tupK (h : X.K = K := by rfl) : IxR X (rIxT K) := h ▸ ix_tup
theorem sl_listK (h : X.K = K := by rfl) : L2.SlR X (rSlL K) := h ▸ sl_list
theorem eqDK (hu : X.A.units + 64 < cLine) (h : X.K = K := by rfl) : OpR X (compareOp .Eq) (rEqD K) := h ▸ op_eqD hu
theorem neDK (hu : X.A.units + 64 < cLine) (h : X.K = K := by rfl) : OpR X (compareOp .NotEq) (rNeD K) := h ▸ op_neD hu
theorem lenK (h : X.K = K := by rfl) : CallR X (.builtin "len") (fun xs H Q => ∃ p ys, xs = [.ref p] ∧ (SqL K H p ys ∨ SqT K H p ys) ∧ Q (.int ys.length) H) := h ▸ call_len_seq
theorem listK (h : X.K = K := by rfl) : CallR X (.type "list") (fun xs H Q => ∃ p ys, xs = [.ref p] ∧ (SqL K H p ys ∨ SqT K H p ys) ∧ ∀ l, H l = none → Q (.ref l) (upd H l (.lst ys))) := h ▸ call_list_of
theorem tupleK (h : X.K = K := by rfl) : CallR X (.type "tuple") (fun xs H Q => ∃ p ys, xs = [.ref p] ∧ ((SqL K H p ys ∧ ∀ l, H l = none → Q (.ref l) (upd H l (.tup ys))) ∨ (SqT K H p ys ∧ Q (.ref p) H))) := h ▸ call_tuple_of
theorem isiK (h : X.K = K := by rfl) : CallR X (.builtin "isinstance") (rIsi K) := h ▸ call_isi
theorem sortedK (h : X.K = K := by rfl) : CallR X (.builtin "sorted") (rSortedI K) := h ▸ cr_sortedI
theorem tgtK {es : List Expr} {k n : Nat} {t : TGs} {pos : Pos} (hp : PGs X es t) (hc : X.calm = true := by rfl) (h : X.K = K := by rfl)
    (hn : (assignEach es X.env).length = n := by rfl) (hst : (assignEach es X.env).findIdx? (·.1) = none := by rfl) : PG X (.Tuple es k pos) (gTup K n t) := h ▸ pg_tup hc hp hn hst
end
/-! ### slices and sums of tuples: what is told may be an old tuple or a new one -/
def rSlU (_ : PySem.W.Frag) : V → Option Int → Option Int → Hp → VK → Prop := fun x lo hi H Q => ∃ a xs, x = .ref a ∧ H a = some (.tup xs) ∧ ∀ p H', Ke H H' → H' p = some (.tup (cutV xs lo hi)) → Q (.ref p) H'
theorem sl_tupU {X : Cx} {K : PySem.W.Frag} (h : X.K = K := by rfl) : L2.SlR X (rSlU K) := by
  intro pins s σ H x v vl vu lo hi sl Q I rx hs pl pu hq
  obtain ⟨a, xs, e, hx, q⟩ := hq
  refine sl_tupA pins s σ H x v vl vu lo hi sl Q I rx hs pl pu ⟨a, xs, e, sqT_of hx, fun hw => q a H .refl ?_, fun _ p np => q p _ (Ke.new np) upd_same⟩
  rw [hx]
  unfold cutV
  rw [hw.1, hw.2, List.drop_zero, Nat.sub_zero, List.take_length]
def rCatU (_ : PySem.W.Frag) : R2 := fun x y H Q => ∃ a b xs ys, x = .ref a ∧ y = .ref b ∧ H a = some (.tup xs) ∧ H b = some (.tup ys) ∧ xs.length + ys.length ≤ sizeLine ∧ ∀ p H', Ke H H' → H' p = some (.tup (xs ++ ys)) → Q (.ref p) H'
theorem catU {X : Cx} {K : PySem.W.Frag} (h : X.K = K := by rfl) : OpR X (binaryOp .Add) (rCatU K) := by
  intro pins s σ H x y v u Q I rx ry hq
  obtain ⟨a, b, xs, ys, e1, e2, hx, hy, hl, q⟩ := hq
  refine op_catA pins s σ H x y v u Q I rx ry ⟨a, b, xs, ys, e1, e2, sqT_of hx, sqT_of hy, hl, fun z => q b H .refl ?_, fun _ z => q a H .refl ?_, fun _ _ p np => q p _ (Ke.new np) upd_same⟩
  · rw [hy, z, List.nil_append]
  · rw [hx, z, List.append_nil]
end FF
namespace FF
open PySem PySem.Spec PyProof.Rows L2
variable [LT]
/-! ### walked things with the written part said -/
section
variable {X : Cx} {K : PySem.W.Frag} {tg l : Expr} {tl : TE}
end
section
variable {X : Cx} {K : PySem.W.Frag} {T : String} {name : Str} {id : String} {r : V → List V → Hp → VK → Prop} {o e : Expr} {es : List Expr} {to : TE} {t : TA} {apos cpos : Pos}
end
end FF
namespace FF
open PySem PySem.Spec PyProof.Rows L2
variable [LT]
/-! ### lots -/
/-- a thing is a tuple of these, or of another kind -/
inductive Tpl (H : Hp) : V → Option (List V) → Prop where
  | yes {a : Addr} {xs : List V} (h : H a = some (.tup xs)) (hx : ∀ x ∈ xs, ∃ n, TyN H x n) : Tpl H (.ref a) (some xs)
  | no {v : V} {n : String} (h : TyN H v n) (hn : n ≠ "tuple") : Tpl H v none
/-- rising from lo, below n -/
def rising (n : Int) : Int → List V → Bool
  | _, [] => true
  | lo, v :: r => match v with
    | .int i => isNum v lo (n - 1) && rising n (i + 1) r
    | _ => false
def lotO (n : Int) : Option (List V) → Bool
  | none => false
  | some [] => false
  | some (v :: r) => rising n 0 (v :: r)
def intsOf (xs : List V) : List Int := xs.map fun v => match v with
  | .int i => i
  | _ => 0
def fullO (n : Int) (ts : List (Int × Int)) (k : Int) (o : Option (List V)) : Bool := lotO n o && match o with
  | none => false
  | some xs => decide ((inside (intsOf xs) ts : Int) > k * ((xs.length : Int) - 1))
theorem intsOf_map (ls : List Int) : intsOf (ls.map V.int) = ls := by
  unfold intsOf
  rw [List.map_map]
  exact List.map_id' ls
theorem rising_ints {n : Int} : ∀ {lo : Int} {xs : List V}, rising n lo xs = true → xs = (intsOf xs).map V.int
  | _, [], _ => rfl
  | lo, v :: r, h => by
    cases v with
    | int i =>
      have h : (isNum (.int i) lo (n - 1) && rising n (i + 1) r) = true := h
      have ih := rising_ints (Bool.and_eq_true_iff.mp h).2
      show V.int i :: r = V.int i :: (intsOf r).map V.int
      rw [← ih]
    | _ => cases h
theorem lotO_rising {n : Int} {xs : List V} (h : lotO n (some xs) = true) : xs ≠ [] ∧ rising n 0 xs = true := by
  cases xs with
  | nil => cases h
  | cons v r => exact ⟨List.cons_ne_nil _ _, h⟩
structure Lot (n : Int) (ls : List Int) : Prop where
  ne : ls ≠ []
  up : ls.Pairwise (· < ·)
  ok : ∀ x ∈ ls, 0 ≤ x ∧ x < n
theorem rising_of {n : Int} : ∀ {lo : Int} {ls : List Int}, ls.Pairwise (· < ·) → (∀ x ∈ ls, lo ≤ x ∧ x < n) → rising n lo (ls.map V.int) = true
  | _, [], _, _ => rfl
  | lo, i :: r, hp, hx => by
    obtain ⟨h1, h2⟩ := List.pairwise_cons.mp hp
    have hi := hx i List.mem_cons_self
    show (isNum (.int i) lo (n - 1) && rising n (i + 1) (r.map V.int)) = true
    rw [Bool.and_eq_true_iff]
    refine ⟨?_, rising_of h2 fun x hm => ⟨?_, (hx x (List.mem_cons_of_mem _ hm)).2⟩⟩
    · show (decide (lo ≤ i) && decide (i ≤ n - 1)) = true
      rw [decide_eq_true hi.1, decide_eq_true (by omega : i ≤ n - 1)]
      rfl
    · have := h1 x hm
      omega
theorem Lot.o {n : Int} {ls : List Int} (h : Lot n ls) : lotO n (some (ls.map V.int)) = true := by
  cases e : ls with
  | nil => exact absurd e h.ne
  | cons i r =>
    rw [← e]
    have : lotO n (some (ls.map V.int)) = rising n 0 (ls.map V.int) := by rw [e]; rfl
    rw [this]
    exact rising_of h.up h.ok
theorem Lot.full {n : Int} {ls : List Int} (h : Lot n ls) (ts : List (Int × Int)) (k : Int) : fullO n ts k (some (ls.map V.int)) = decide ((inside ls ts : Int) > k * ((ls.length : Int) - 1)) := by
  unfold fullO
  rw [h.o, Bool.true_and]
  show decide ((inside (intsOf (ls.map V.int)) ts : Int) > k * (((ls.map V.int).length : Int) - 1)) = _
  rw [intsOf_map, List.length_map]
theorem Lot.one {n x : Int} (h0 : 0 ≤ x) (h1 : x < n) : Lot n [x] := ⟨List.cons_ne_nil _ _, List.pairwise_singleton _ _, fun y hy => by rw [List.mem_singleton.mp hy]; exact ⟨h0, h1⟩⟩
theorem Lot.two {n x y : Int} (h0 : 0 ≤ x) (h1 : x < y) (h2 : y < n) : Lot n [x, y] := ⟨List.cons_ne_nil _ _, by simp [h1], fun z hz => by
  rcases List.mem_cons.mp hz with rfl | hz
  · exact ⟨h0, by omega⟩
  · rw [List.mem_singleton.mp hz]
    exact ⟨by omega, h2⟩⟩
theorem ty_ints {H : Hp} (ls : List Int) : ∀ x ∈ ls.map V.int, ∃ n, TyN H x n := fun x hx => by
  obtain ⟨i, _, rfl⟩ := List.mem_map.mp hx
  exact ⟨_, .int i⟩
theorem dp_ints {K : PySem.W.Frag} {H : Hp} : ∀ ls : List Int, DpAll K H (ls.map V.int) (ls.map PyData.int)
  | [] => .nil
  | i :: r => .cons (.int i) (dp_ints r)
theorem Lot.all {n : Int} (h : 1 ≤ n) : Lot n ((List.range n.toNat).map fun (i : Nat) => (i : Int)) := by
  refine ⟨fun z => ?_, ?_, fun x hx => ?_⟩
  · have := congrArg List.length z
    simp at this
    omega
  · rw [List.pairwise_map]
    exact List.pairwise_lt_range.imp fun h => by omega
  · obtain ⟨i, hi, rfl⟩ := List.mem_map.mp hx
    have := List.mem_range.mp hi
    omega
theorem rgV_ints (n : Int) : rgV 0 n = ((List.range n.toNat).map fun (i : Nat) => (i : Int)).map V.int := by
  unfold rgV
  rw [List.map_map, Int.sub_zero]
  apply List.map_congr_left
  intro i _
  show V.int (0 + (i : Int)) = V.int (i : Int)
  rw [Int.zero_add]
theorem up_length {n : Int} : ∀ {lo : Int} {ls : List Int}, ls.Pairwise (· < ·) → (∀ x ∈ ls, lo ≤ x ∧ x < n) → (ls.length : Int) ≤ max 0 (n - lo)
  | _, [], _, _ => by simp; omega
  | lo, i :: r, hp, hx => by
    obtain ⟨h1, h2⟩ := List.pairwise_cons.mp hp
    have hi := hx i List.mem_cons_self
    have ih := up_length (lo := i + 1) h2 fun x hm => ⟨by have := h1 x hm; omega, (hx x (List.mem_cons_of_mem _ hm)).2⟩
    rw [List.length_cons]
    omega
theorem Lot.length {n : Int} {ls : List Int} (h : Lot n ls) : (ls.length : Int) ≤ max 0 n := by
  have := up_length h.up h.ok
  omega
end FF
namespace FF
open PySem PySem.Spec PyProof.Rows L2
variable [LT]
/-! ### joined points: roots, labels, and how many are apart (plain mathematics) -/
theorem step_mem (acc : List Int) (x k : Int) : k ∈ step_dedup acc x ↔ k ∈ acc ∨ k = x := by
  unfold step_dedup
  split
  · rename_i h
    constructor
    · exact .inl
    · rintro (z | rfl)
      · exact z
      · simpa using h
  · simp
theorem step_nd {acc : List Int} (x : Int) (h : acc.Nodup) : (step_dedup acc x).Nodup := by
  unfold step_dedup
  split
  · exact h
  · rename_i hx
    rw [List.nodup_append]
    refine ⟨h, by simp, fun a ha b hb => ?_⟩
    rw [List.mem_singleton.mp hb]
    rintro rfl
    exact hx (by simpa using ha)
theorem fold_mem : ∀ (ns acc : List Int) (k : Int), k ∈ ns.foldl step_dedup acc ↔ k ∈ acc ∨ k ∈ ns
  | [], acc, k => by simp
  | x :: r, acc, k => by
    rw [List.foldl_cons, fold_mem r, step_mem, List.mem_cons, or_assoc]
theorem fold_nd : ∀ (ns acc : List Int), acc.Nodup → (ns.foldl step_dedup acc).Nodup
  | [], _, h => h
  | x :: r, acc, h => by
    rw [List.foldl_cons]
    exact fold_nd r _ (step_nd x h)
theorem mem_nub (ns : List Int) (k : Int) : k ∈ nub ns ↔ k ∈ ns := by
  unfold nub
  rw [fold_mem]
  simp
theorem nub_nd (ns : List Int) : (nub ns).Nodup := fold_nd ns [] List.nodup_nil
theorem nd_le : ∀ {l m : List Int}, l.Nodup → (∀ x ∈ l, x ∈ m) → l.length ≤ m.length
  | [], _, _, _ => Nat.zero_le _
  | x :: r, m, hd, hs => by
    obtain ⟨h1, h2⟩ := List.nodup_cons.mp hd
    have hx := hs x List.mem_cons_self
    have ih := nd_le (l := r) (m := m.erase x) h2 fun y hy => by
      have hne : y ≠ x := fun z => h1 (z ▸ hy)
      exact (List.mem_erase_of_ne hne).mpr (hs y (List.mem_cons_of_mem _ hy))
    rw [List.length_erase_of_mem hx] at ih
    have := List.length_pos_of_mem hx
    rw [List.length_cons]
    omega
theorem nd_eq {l m : List Int} (h1 : l.Nodup) (h2 : m.Nodup) (h : ∀ x, x ∈ l ↔ x ∈ m) : l.length = m.length :=
  Nat.le_antisymm (nd_le h1 fun x hx => (h x).mp hx) (nd_le h2 fun x hx => (h x).mpr hx)
/-- labels, two of them made one -/
def mrg (a b x : Int) : Int := if x = a ∨ x = b then min a b else x
theorem nub_same (a : Int) (hs : List Int) : (nub (hs.map (mrg a a))).length = (nub hs).length := by
  have e : hs.map (mrg a a) = hs := by
    conv => rhs; rw [← List.map_id hs]
    apply List.map_congr_left
    intro x _
    unfold mrg
    split
    · rename_i h
      rcases h with rfl | rfl <;> simp
    · rfl
  rw [e]
theorem nub_less {a b : Int} {hs : List Int} (ha : a ∈ hs) (hb : b ∈ hs) (h : a ≠ b) : (nub (hs.map (mrg a b))).length + 1 = (nub hs).length := by
  have hmax : max a b ∈ nub hs := (mem_nub _ _).mpr (by
    rcases Int.le_total a b with z | z
    · rw [Int.max_eq_right z]; exact hb
    · rw [Int.max_eq_left z]; exact ha)
  have hl : ((nub hs).erase (max a b)).length + 1 = (nub hs).length := by
    rw [List.length_erase_of_mem hmax]
    have := List.length_pos_of_mem hmax
    omega
  rw [← hl]
  congr 1
  refine nd_eq (nub_nd _) ((nub_nd hs).erase _) fun x => ?_
  rw [mem_nub, List.mem_map, (nub_nd hs).mem_erase_iff, mem_nub]
  constructor
  · rintro ⟨y, hy, rfl⟩
    unfold mrg
    split
    · refine ⟨by omega, ?_⟩
      rcases Int.le_total a b with z | z
      · rw [Int.min_eq_left z]; exact ha
      · rw [Int.min_eq_right z]; exact hb
    · rename_i hn
      exact ⟨by omega, hy⟩
  · rintro ⟨h1, h2⟩
    by_cases hx : x = a ∨ x = b
    · refine ⟨x, h2, ?_⟩
      unfold mrg
      rw [if_pos hx]
      omega
    · refine ⟨x, h2, ?_⟩
      unfold mrg
      rw [if_neg hx]
end FF
namespace FF
open PySem PySem.Spec PyProof.Rows L2
variable [LT]
def rstep (r : Int → Int) (t : Int × Int) : Int → Int := fun x => if r x = r t.2 then r t.1 else r x
def ringlessF : (Int → Int) → List (Int × Int) → Bool
  | _, [] => true
  | r, t :: ts => if r t.1 = r t.2 then false else ringlessF (rstep r t) ts
def hat (hs : List Int) (x : Int) : Int := hs.getD x.toNat 0
def hstep (hs : List Int) (t : Int × Int) : List Int := hs.map (mrg (hat hs t.1) (hat hs t.2))
def headsF (hs : List Int) (ts : List (Int × Int)) : List Int := ts.foldl hstep hs
structure Ker (n : Int) (r : Int → Int) (hs : List Int) : Prop where
  len : (hs.length : Int) = n
  ker : ∀ x y, 0 ≤ x → x < n → 0 ≤ y → y < n → (r x = r y ↔ hat hs x = hat hs y)
theorem hat_map {hs : List Int} {f : Int → Int} {x : Int} (h0 : 0 ≤ x) (h1 : x < hs.length) : hat (hs.map f) x = f (hat hs x) := by
  have hx : x.toNat < hs.length := by omega
  unfold hat
  rw [List.getD_eq_getElem?_getD, List.getD_eq_getElem?_getD, List.getElem?_map, List.getElem?_eq_getElem hx]
  rfl
theorem hat_mem {hs : List Int} {x : Int} (h0 : 0 ≤ x) (h1 : x < hs.length) : hat hs x ∈ hs := by
  have hx : x.toNat < hs.length := by omega
  unfold hat
  rw [List.getD_eq_getElem?_getD, List.getElem?_eq_getElem hx]
  exact List.getElem_mem hx
theorem Ker.step {n : Int} {r : Int → Int} {hs : List Int} (k : Ker n r hs) {t : Int × Int} (h : 0 ≤ t.1 ∧ t.1 < t.2 ∧ t.2 < n) : Ker n (rstep r t) (hstep hs t) := by
  have hl := k.len
  refine ⟨by unfold hstep; rw [List.length_map]; exact hl, fun x y x0 x1 y0 y1 => ?_⟩
  unfold hstep
  rw [hat_map x0 (by omega), hat_map y0 (by omega)]
  have a1 := k.ker x y x0 x1 y0 y1
  have a2 := k.ker x t.1 x0 x1 h.1 (by omega)
  have a3 := k.ker x t.2 x0 x1 (by omega) h.2.2
  have a4 := k.ker y t.1 y0 y1 h.1 (by omega)
  have a5 := k.ker y t.2 y0 y1 (by omega) h.2.2
  have a6 := k.ker t.1 t.2 h.1 (by omega) (by omega) h.2.2
  unfold rstep mrg
  generalize r x = rx at *
  generalize r y = ry at *
  generalize r t.1 = ra at *
  generalize r t.2 = rb at *
  generalize hat hs x = hx at *
  generalize hat hs y = hy at *
  generalize hat hs t.1 = ha at *
  generalize hat hs t.2 = hb at *
  split <;> split <;> split <;> split <;> omega
theorem nub_step {n : Int} {r : Int → Int} {hs : List Int} (k : Ker n r hs) {t : Int × Int} (h : 0 ≤ t.1 ∧ t.1 < t.2 ∧ t.2 < n) :
    (r t.1 = r t.2 → (nub (hstep hs t)).length = (nub hs).length) ∧ (r t.1 ≠ r t.2 → (nub (hstep hs t)).length + 1 = (nub hs).length) := by
  have hl := k.len
  have e := k.ker t.1 t.2 h.1 (by omega) (by omega) h.2.2
  refine ⟨fun z => ?_, fun z => ?_⟩
  · unfold hstep
    rw [← e.mp z]
    exact nub_same _ _
  · unfold hstep
    exact nub_less (hat_mem h.1 (by omega)) (hat_mem (by omega) (by omega)) fun q => z (e.mpr q)
theorem forest_count {n : Int} : ∀ (ts : List (Int × Int)) (r : Int → Int) (hs : List Int), Ker n r hs → TOk n ts →
    (nub hs).length ≤ ts.length + (nub (headsF hs ts)).length ∧ (ringlessF r ts = true ↔ ts.length + (nub (headsF hs ts)).length = (nub hs).length)
  | [], r, hs, _, _ => by
    refine ⟨by simp [headsF], ?_⟩
    simp [headsF, ringlessF]
  | t :: ts, r, hs, k, hok => by
    have ht := hok t List.mem_cons_self
    obtain ⟨i1, i2⟩ := forest_count ts (rstep r t) (hstep hs t) (k.step ht) fun x hx => hok x (List.mem_cons_of_mem _ hx)
    obtain ⟨s1, s2⟩ := nub_step k ht
    have e : headsF hs (t :: ts) = headsF (hstep hs t) ts := rfl
    rw [e, List.length_cons]
    unfold ringlessF
    by_cases z : r t.1 = r t.2
    · have := s1 z
      rw [if_pos z]
      refine ⟨by omega, ?_⟩
      constructor
      · intro q; cases q
      · intro q; omega
    · have := s2 z
      rw [if_neg z]
      refine ⟨by omega, ?_⟩
      rw [i2]
      omega
def upTo (n : Int) : List Int := (List.range n.toNat).map fun (i : Nat) => (i : Int)
theorem upTo_length (n : Int) : (upTo n).length = n.toNat := by unfold upTo; rw [List.length_map, List.length_range]
theorem upTo_nd (n : Int) : (upTo n).Nodup := by
  unfold upTo
  rw [List.nodup_iff_pairwise_ne, List.pairwise_map]
  exact List.pairwise_lt_range.imp fun h => by omega
theorem upTo_nub (n : Int) : (nub (upTo n)).length = n.toNat := by
  rw [← upTo_length n]
  exact nd_eq (nub_nd _) (upTo_nd n) fun x => mem_nub _ x
theorem hat_upTo {n x : Int} (h0 : 0 ≤ x) (h1 : x < n) : hat (upTo n) x = x := by
  have hx : x.toNat < (upTo n).length := by rw [upTo_length]; omega
  unfold hat
  rw [List.getD_eq_getElem?_getD, List.getElem?_eq_getElem hx]
  simp only [upTo, List.getElem_map, List.getElem_range, Option.getD_some]
  omega
theorem Ker.start {n : Int} (h : 0 ≤ n) : Ker n (fun x => x) (upTo n) := ⟨by rw [upTo_length]; omega, fun x y x0 x1 y0 y1 => by rw [hat_upTo x0 x1, hat_upTo y0 y1]⟩
theorem forest_iff {n : Int} (h : 0 ≤ n) {ts : List (Int × Int)} (ok : TOk n ts) : ringlessF (fun x => x) ts = decide (((ts.length : Int) + ((nub (headsF (upTo n) ts)).length : Int)) = n) := by
  have q := (forest_count ts _ _ (Ker.start h) ok).2
  rw [upTo_nub] at q
  by_cases z : ringlessF (fun x => x) ts = true
  · rw [z]
    have := q.mp z
    exact (decide_eq_true (by omega)).symm
  · rw [Bool.eq_false_iff.mpr z]
    refine (decide_eq_false fun e => z (q.mpr (by omega))).symm
end FF
namespace FF
open PySem PySem.Spec PyProof.Rows L2
variable [LT]
/-! ### leaders: each point leads to one nearer to its root -/
structure UF (n : Int) (ls : List Int) (r : Int → Int) (d : Int → Nat) : Prop where
  len : (ls.length : Int) = n
  rng : ∀ x, 0 ≤ x → x < n → 0 ≤ hat ls x ∧ hat ls x < n
  root : ∀ x, 0 ≤ x → x < n → r (hat ls x) = r x
  top : ∀ x, 0 ≤ x → x < n → hat ls x = x → r x = x
  down : ∀ x, 0 ≤ x → x < n → hat ls x ≠ x → d (hat ls x) < d x
  rr : ∀ x, 0 ≤ x → x < n → 0 ≤ r x ∧ r x < n ∧ hat ls (r x) = r x
theorem hat_set {ls : List Int} {i v x : Int} (h0 : 0 ≤ i) (h1 : i < ls.length) (x0 : 0 ≤ x) : hat (ls.set i.toNat v) x = if x = i then v else hat ls x := by
  unfold hat
  rw [List.getD_eq_getElem?_getD, List.getD_eq_getElem?_getD, List.getElem?_set]
  by_cases e : x = i
  · subst e
    rw [if_pos rfl, if_pos rfl, if_pos (by omega)]
    rfl
  · rw [if_neg e, if_neg (by omega)]
/-- halving the way -/
theorem UF.half {n : Int} {ls : List Int} {r : Int → Int} {d : Int → Nat} (u : UF n ls r d) {x : Int} (x0 : 0 ≤ x) (x1 : x < n) (hne : hat ls x ≠ x) : UF n (ls.set x.toNat (hat ls (hat ls x))) r d := by
  have hl := u.len
  obtain ⟨y0, y1⟩ := u.rng x x0 x1
  obtain ⟨z0, z1⟩ := u.rng _ y0 y1
  have hs : ∀ y, 0 ≤ y → hat (ls.set x.toNat (hat ls (hat ls x))) y = if y = x then hat ls (hat ls x) else hat ls y := fun y h => hat_set x0 (by omega) h
  have hrz : r (hat ls (hat ls x)) = r x := (u.root _ y0 y1).trans (u.root x x0 x1)
  have hdd : d (hat ls (hat ls x)) < d x := by
    have h1 := u.down x x0 x1 hne
    by_cases e : hat ls (hat ls x) = hat ls x
    · rw [e]; exact h1
    · have := u.down _ y0 y1 e
      omega
  refine ⟨by rw [List.length_set]; exact hl, fun y h0 h1 => ?_, fun y h0 h1 => ?_, fun y h0 h1 => ?_, fun y h0 h1 => ?_, fun y h0 h1 => ?_⟩
  · rw [hs y h0]
    split
    · exact ⟨z0, z1⟩
    · exact u.rng y h0 h1
  · rw [hs y h0]
    split
    · rename_i e
      rw [e]; exact hrz
    · exact u.root y h0 h1
  · rw [hs y h0]
    split
    · rename_i e
      intro q
      rw [e] at q
      rw [q] at hdd
      exact absurd hdd (Nat.lt_irrefl _)
    · exact u.top y h0 h1
  · rw [hs y h0]
    split
    · rename_i e
      rw [e]
      intro _
      exact hdd
    · exact u.down y h0 h1
  · obtain ⟨a0, a1, a2⟩ := u.rr y h0 h1
    refine ⟨a0, a1, ?_⟩
    rw [hs _ a0]
    split
    · rename_i e
      rw [e] at a2
      exact absurd a2 hne
    · exact a2
/-- two roots made one: b's under a's -/
theorem UF.join {n : Int} {ls : List Int} {r : Int → Int} {d : Int → Nat} (u : UF n ls r d) {a b : Int} (a0 : 0 ≤ a) (a1 : a < n) (b0 : 0 ≤ b) (b1 : b < n) : ∃ d', UF n (ls.set (r b).toNat (r a)) (rstep r (a, b)) d' := by
  have hl := u.len
  obtain ⟨p0, p1, p2⟩ := u.rr a a0 a1
  obtain ⟨q0, q1, q2⟩ := u.rr b b0 b1
  have rra : r (r a) = r a := u.top _ p0 p1 p2
  have rrb : r (r b) = r b := u.top _ q0 q1 q2
  have hs : ∀ y, 0 ≤ y → hat (ls.set (r b).toNat (r a)) y = if y = r b then r a else hat ls y := fun y h => hat_set q0 (by omega) h
  by_cases same : r a = r b
  · -- nothing changes
    have hh : ∀ y, 0 ≤ y → hat (ls.set (r b).toNat (r a)) y = hat ls y := fun y h => by
      rw [hs y h]
      split
      · rename_i e
        rw [e, q2, same]
      · rfl
    have hr : rstep r (a, b) = r := by
      funext y
      unfold rstep
      split
      · rename_i e
        rw [e]; exact same
      · rfl
    rw [hr]
    exact ⟨d, by rw [List.length_set]; exact hl, fun y h0 h1 => by rw [hh y h0]; exact u.rng y h0 h1, fun y h0 h1 => by rw [hh y h0]; exact u.root y h0 h1, fun y h0 h1 => by rw [hh y h0]; exact u.top y h0 h1, fun y h0 h1 => by rw [hh y h0]; exact u.down y h0 h1, fun y h0 h1 => by
      obtain ⟨x0, x1, x2⟩ := u.rr y h0 h1
      exact ⟨x0, x1, by rw [hh _ x0]; exact x2⟩⟩
  · refine ⟨fun y => if r y = r b then d y + d (r a) + 1 else d y, by rw [List.length_set]; exact hl, fun y h0 h1 => ?_, fun y h0 h1 => ?_, fun y h0 h1 => ?_, fun y h0 h1 => ?_, fun y h0 h1 => ?_⟩
    · rw [hs y h0]
      split
      · exact ⟨p0, p1⟩
      · exact u.rng y h0 h1
    · rw [hs y h0]
      have ry := u.root y h0 h1
      unfold rstep
      show (if r (if y = r b then r a else hat ls y) = r b then r a else r (if y = r b then r a else hat ls y)) = if r y = r b then r a else r y
      split
      · rename_i e
        rw [e, rra, rrb, if_neg same, if_pos rfl]
      · rw [ry]
    · rw [hs y h0]
      split
      · rename_i e
        intro q
        exact absurd (q.trans e) same
      · rename_i e
        intro q
        have := u.top y h0 h1 q
        unfold rstep
        show (if r y = r b then r a else r y) = y
        rw [this, if_neg e]
    · rw [hs y h0]
      have ry := u.root y h0 h1
      split
      · rename_i e
        intro _
        show (if r (r a) = r b then d (r a) + d (r a) + 1 else d (r a)) < if r y = r b then d y + d (r a) + 1 else d y
        rw [rra, if_neg same, e, rrb, if_pos rfl]
        omega
      · rename_i e
        intro q
        have := u.down y h0 h1 q
        show (if r (hat ls y) = r b then d (hat ls y) + d (r a) + 1 else d (hat ls y)) < if r y = r b then d y + d (r a) + 1 else d y
        rw [ry]
        split <;> omega
    · obtain ⟨x0, x1, x2⟩ := u.rr y h0 h1
      unfold rstep
      show 0 ≤ (if r y = r b then r a else r y) ∧ (if r y = r b then r a else r y) < n ∧ hat (ls.set (r b).toNat (r a)) (if r y = r b then r a else r y) = if r y = r b then r a else r y
      split
      · refine ⟨p0, p1, ?_⟩
        rw [hs _ p0, if_neg same]
        exact p2
      · rename_i e
        refine ⟨x0, x1, ?_⟩
        rw [hs _ x0, if_neg e]
        exact x2
theorem UF.start {n : Int} (h : 0 ≤ n) : UF n (upTo n) (fun x => x) (fun _ => 0) :=
  ⟨by rw [upTo_length]; omega, fun x h0 h1 => by rw [hat_upTo h0 h1]; exact ⟨h0, h1⟩, fun x h0 h1 => by rw [hat_upTo h0 h1], fun x _ _ _ => rfl, fun x h0 h1 q => absurd (hat_upTo h0 h1) q, fun x h0 h1 => ⟨h0, h1, hat_upTo h0 h1⟩⟩
theorem hat_at {ls : List Int} {x : Int} (h0 : 0 ≤ x) (h1 : x < ls.length) : atI (ls.map V.int) x = some (.int (hat ls x)) := by
  obtain ⟨v, _, hv, e⟩ := at_int h0 h1
  rw [e]
  unfold hat
  rw [List.getD_eq_getElem?_getD, hv]
  rfl
end FF
namespace FF
open PySem PySem.Spec PyProof.Rows L2
variable [LT]
/-! ### ties picked by their numbers -/
def pick (ts : List (Int × Int)) (ms : List Int) : List (Int × Int) := ms.map fun m => ts.getD m.toNat (0, 0)
theorem pick_append (ts : List (Int × Int)) (ms ks : List Int) : pick ts (ms ++ ks) = pick ts ms ++ pick ts ks := List.map_append
theorem pick_length (ts : List (Int × Int)) (ms : List Int) : (pick ts ms).length = ms.length := List.length_map ..
theorem getD_at {ts : List (Int × Int)} {m : Int} (h0 : 0 ≤ m) (h1 : m < ts.length) : ts[m.toNat]? = some (ts.getD m.toNat (0, 0)) := by
  have hx : m.toNat < ts.length := by omega
  rw [List.getD_eq_getElem?_getD, List.getElem?_eq_getElem hx]
  rfl
/-- the k-th of some ties, with its object -/
theorem Ties.at_ {H : Hp} {rs : List V} {ts : List (Int × Int)} (h : Ties H rs ts) {m : Int} (h0 : 0 ≤ m) (h1 : m < ts.length) : ∃ q, atI rs m = some (.ref q) ∧ H q = some (.tup [.int (ts.getD m.toNat (0, 0)).1, .int (ts.getD m.toNat (0, 0)).2]) := by
  have hx : m.toNat < rs.length := by rw [h.length]; omega
  obtain ⟨t, q, e1, e2, e3⟩ := h.get (List.getElem?_eq_getElem hx)
  rw [getD_at h0 h1] at e1
  cases e1
  refine ⟨q, ?_, e3⟩
  have e : ((m.toNat : Nat) : Int) = m := by omega
  have z := atI_nat (xs := rs) (j := m.toNat) ((List.getElem?_eq_getElem hx).trans (congrArg some e2))
  rw [e] at z
  exact z
def foldR (r : Int → Int) (ts : List (Int × Int)) : Int → Int := ts.foldl rstep r
theorem ringlessF_split : ∀ (us : List (Int × Int)) (r : Int → Int) (ws : List (Int × Int)), ringlessF r us = true → ringlessF r (us ++ ws) = ringlessF (foldR r us) ws
  | [], _, _, _ => rfl
  | t :: us, r, ws, h => by
    unfold ringlessF at h
    by_cases e : r t.1 = r t.2
    · rw [if_pos e] at h
      cases h
    · rw [if_neg e] at h
      show (if r t.1 = r t.2 then false else ringlessF (rstep r t) (us ++ ws)) = _
      rw [if_neg e]
      exact ringlessF_split us _ ws h
theorem ringlessF_bad : ∀ (us : List (Int × Int)) (r : Int → Int) (ws : List (Int × Int)), ringlessF r us = false → ringlessF r (us ++ ws) = false
  | [], _, _, h => by cases h
  | t :: us, r, ws, h => by
    unfold ringlessF at h
    by_cases e : r t.1 = r t.2
    · show (if r t.1 = r t.2 then false else ringlessF (rstep r t) (us ++ ws)) = _
      rw [if_pos e]
    · rw [if_neg e] at h
      show (if r t.1 = r t.2 then false else ringlessF (rstep r t) (us ++ ws)) = _
      rw [if_neg e]
      exact ringlessF_bad us _ ws h
theorem foldR_snoc (r : Int → Int) (us : List (Int × Int)) (t : Int × Int) : foldR r (us ++ [t]) = rstep (foldR r us) t := by
  unfold foldR
  rw [List.foldl_append]
  rfl
/-- one tie more -/
theorem ringlessF_more {us : List (Int × Int)} {r : Int → Int} (h : ringlessF r us = true) (t : Int × Int) : ringlessF r (us ++ [t]) = !decide (foldR r us t.1 = foldR r us t.2) := by
  rw [ringlessF_split us r _ h]
  show (if foldR r us t.1 = foldR r us t.2 then false else true) = _
  by_cases e : foldR r us t.1 = foldR r us t.2
  · rw [if_pos e, decide_eq_true e]
    rfl
  · rw [if_neg e, decide_eq_false e]
    rfl
theorem headsF_snoc (hs : List Int) (us : List (Int × Int)) (t : Int × Int) : headsF hs (us ++ [t]) = hstep (headsF hs us) t := by
  unfold headsF
  rw [List.foldl_append]
  rfl
theorem headsF_length (hs : List Int) : ∀ ts : List (Int × Int), (headsF hs ts).length = hs.length := fun ts => by
  induction ts generalizing hs with
  | nil => rfl
  | cons t ts ih =>
    show (headsF (hstep hs t) ts).length = _
    rw [ih]
    unfold hstep
    rw [List.length_map]
/-! ### rings -/
theorem upd_id {H : Hp} {a : Addr} {o : HO} (h : H a = some o) : upd H a o = H := by
  funext b
  by_cases e : b = a
  · rw [e, upd_same, h]
  · rw [upd_ne e]
theorem rgV_up (n : Int) : rgV 0 n = (upTo n).map V.int := rgV_ints n
theorem decide_int (a b : Int) : decide (V.int a = V.int b) = decide (a = b) := by
  by_cases z : a = b
  · rw [decide_eq_true z, decide_eq_true (congrArg V.int z)]
  · rw [decide_eq_false z, decide_eq_false fun h => z (V.int.inj h)]
theorem take_next {α : Type} {xs : List α} {i : Nat} {x : α} (h : xs[i]? = some x) : xs.take (i + 1) = xs.take i ++ [x] := by
  rw [List.take_add_one, h]
  rfl
theorem take_rest {α : Type} {xs : List α} {i : Nat} {x : α} (h : xs[i]? = some x) : xs = xs.take i ++ [x] ++ xs.drop (i + 1) := by
  rw [← take_next h, List.take_append_drop]
theorem Kx.put {S : Addr → Prop} {H H1 : Hp} {p : Addr} {o : HO} (k : Kx S H H1) (h : H p = none) : Kx S H (upd H1 p o) := k.over h
/-- ties picked from the row of a web -/
theorem Ties.pick1 {H : Hp} {ts : List (Int × Int)} {qs : List V} {ms : List Int} {m : Int} {q : Addr} (h : Ties H qs (pick ts ms)) (hq : H q = some (.tup [.int (ts.getD m.toNat (0, 0)).1, .int (ts.getD m.toNat (0, 0)).2])) : Ties H (qs ++ [.ref q]) (pick ts (ms ++ [m])) := by
  rw [pick_append]
  exact h.append (Ties.one hq)
theorem upTo_snoc (n : Nat) : upTo ((n : Int) + 1) = upTo n ++ [(n : Int)] := by
  unfold upTo
  rw [show ((n : Int) + 1).toNat = n + 1 by omega, show ((n : Int)).toNat = n by omega, List.range_succ, List.map_append]
  rfl
theorem mem_upTo {n x : Int} (h : x ∈ upTo n) : 0 ≤ x ∧ x < n := by
  unfold upTo at h
  obtain ⟨j, hj, rfl⟩ := List.mem_map.mp h
  have := List.mem_range.mp hj
  omega
def but (g : Int) (ms : List Int) : List Int := ms.filter fun i => !decide (i = g)
/-! ### rows of ties' numbers -/
def IsRow (H : Hp) (m : Nat) (x : V) : Prop := ∃ (a : Addr) (ms : List Int), x = .ref a ∧ H a = some (.tup (ms.map V.int)) ∧ ms.length ≤ 1000 ∧ ∀ y ∈ ms, 0 ≤ y ∧ y < (m : Int)
theorem IsRow.mono {H H' : Hp} {m : Nat} {x : V} (h : IsRow H m x) (k : ∀ q xs, H q = some (.tup xs) → H' q = some (.tup xs)) : IsRow H' m x := by
  obtain ⟨a, ms, e, h1, h2⟩ := h
  exact ⟨a, ms, e, k _ _ h1, h2⟩
theorem IsRow.ke {H H' : Hp} {m : Nat} {x : V} (h : IsRow H m x) (k : Ke H H') : IsRow H' m x := h.mono fun _ _ => k.tup
theorem IsRow.dk {H H' : Hp} {p : Addr} {m : Nat} {x : V} (h : IsRow H m x) (k : Dk p H H') (d : Deck H p) : IsRow H' m x := h.mono fun _ _ => k.tup d
theorem IsRow.new {H : Hp} {p : Addr} {o : HO} {m : Nat} {x : V} (h : IsRow H m x) (k : H p = none) : IsRow (upd H p o) m x := h.mono fun _ _ => tup_new k
theorem IsRow.put {H : Hp} {p : Addr} {o : HO} {ys : List V} {m : Nat} {x : V} (h : IsRow H m x) (k : H p = some (.lst ys)) : IsRow (upd H p o) m x := h.mono fun q xs e => by rw [upd_ne (ne_of e k (fun z => nomatch z))]; exact e
structure Rows (H : Hp) (m : Nat) (xs : List V) : Prop where
  all : ∀ x ∈ xs, IsRow H m x
theorem Rows.nil {H : Hp} {m : Nat} : Rows H m [] := ⟨fun _ z => nomatch z⟩
theorem Rows.app {H : Hp} {m : Nat} {xs ys : List V} (a : Rows H m xs) (b : Rows H m ys) : Rows H m (xs ++ ys) := ⟨fun x hx => (List.mem_append.mp hx).elim (a.all x) (b.all x)⟩
theorem Rows.one {H : Hp} {m : Nat} {x : V} (a : IsRow H m x) : Rows H m [x] := ⟨fun y hy => by rw [List.mem_singleton.mp hy]; exact a⟩
theorem Rows.ke {H H' : Hp} {m : Nat} {xs : List V} (h : Rows H m xs) (k : Ke H H') : Rows H' m xs := ⟨fun x hx => (h.all x hx).ke k⟩
theorem Rows.dk {H H' : Hp} {p : Addr} {m : Nat} {xs : List V} (h : Rows H m xs) (k : Dk p H H') (d : Deck H p) : Rows H' m xs := ⟨fun x hx => (h.all x hx).dk k d⟩
theorem Rows.new {H : Hp} {p : Addr} {o : HO} {m : Nat} {xs : List V} (h : Rows H m xs) (k : H p = none) : Rows (upd H p o) m xs := ⟨fun x hx => (h.all x hx).new k⟩
theorem Rows.put {H : Hp} {p : Addr} {o : HO} {ys : List V} {m : Nat} {xs : List V} (h : Rows H m xs) (k : H p = some (.lst ys)) : Rows (upd H p o) m xs := ⟨fun x hx => (h.all x hx).put k⟩
theorem Rows.take {H : Hp} {m n : Nat} {xs : List V} (h : Rows H m xs) : Rows H m (xs.take n) := ⟨fun x hx => h.all x (List.mem_of_mem_take hx)⟩
end FF
namespace FF
open PySem PySem.Spec PyProof.Rows L2
variable [LT]
/-! ### enumerate of a tuple -/
section
variable {P : Program} {w : World} {A : Around} {E : Value → Shared → Prop} {s : Shared}
theorem drawsTup (calm : A.handled = none) (j t : Addr) (far : t ≠ j) (vs : Array Value) : Draws P w A j [j, t] vs.size (fun k v => vs[k]? = some v) (fun k h => h.IsTupleIter j t k ∧ h.IsTuple t vs) where
  live _ _ z := by
    obtain ⟨⟨o, ho, _⟩, _⟩ := z
    exact ⟨o, ho⟩
  frame _ _ _ z k := by
    obtain ⟨⟨o1, a1, r1⟩, o2, a2, r2⟩ := z
    exact ⟨⟨o1, k j List.mem_cons_self o1 a1, r1⟩, o2, k t (List.mem_cons_of_mem _ List.mem_cons_self) o2 a2, r2⟩
  item k u Q F hk z fin := RZ.nextOf_tuple_item z.1 z.2 (x := vs[k]) (Array.getElem?_eq_getElem hk) fun h2 a1 a2 => fin _ h2 u.toks (Array.getElem?_eq_getElem hk) ⟨a1, z.2.extBut a2.extBut far⟩ a2
  done u Q F z fin := RZ.nextOf_tuple_end calm z.1 z.2 (by simp) fin
/-- nothing is left -/
theorem drawnOut (calm : A.handled = none) (j t : Addr) (vs : Array Value) (i : Nat) (hn : vs[i]? = none) : Draws P w A j [j, t] i (fun _ _ => False) (fun k h => k = i ∧ h.IsTupleIter j t i ∧ h.IsTuple t vs) where
  live _ _ z := by
    obtain ⟨_, ⟨o, ho, _⟩, _⟩ := z
    exact ⟨o, ho⟩
  frame _ _ _ z k := by
    obtain ⟨e, ⟨o1, a1, r1⟩, o2, a2, r2⟩ := z
    exact ⟨e, ⟨o1, k j List.mem_cons_self o1 a1, r1⟩, o2, k t (List.mem_cons_of_mem _ List.mem_cons_self) o2 a2, r2⟩
  item k u Q F hk z fin := absurd z.1 (Nat.ne_of_lt hk)
  done u Q F z fin := RZ.nextOf_tuple_end calm z.2.1 z.2.2 hn fin
abbrev itObj (t : Addr) : Obj := { cls := .type "tuple_iterator", data := .fields #[.ref t, .int 0 0] }
abbrev enObj (j : Addr) : Obj :=
  { cls := .type "enumerate",
    data := .fields #[.none, .bool false, .ref j, rawInt 0, .none, .none] }
set_option maxHeartbeats 1000000 in
theorem enumMadeT (t : Addr) (vs : Array Value) (k : Nat) (dd : Option Addr) (ss : Array (Option Value)) : Meets (Builtin.«enumerate.__new__» ⟨[.type "enumerate", .ref t], []⟩) (fun _ R s =>
      s.heap.get? t = some { cls := .type "tuple", dict := dd, data := .seq vs k, slots := ss } ∧
      R (.ok (.ret (.ref (s.heap.push (itObj t)).objs.size))) { s with heap := (s.heap.push (itObj t)).push (enObj s.heap.objs.size) }) :=
  .of_wp fun P w A R s h => by
    obtain ⟨h0, g0, d0, t0, s0⟩ := s
    obtain ⟨ht, h⟩ := h
    have isub := sub_enumerate
    have hT : Heap.IsTuple (Shared.heap ⟨h0, g0, d0, t0, s0⟩) t vs := ⟨_, ht, rfl, k, rfl⟩
    wp_walk using wpAny_loadPart' ht
    refine wpAny_stack_any fun _ => wpAny_pure ?_
    split
    · rename_i cc _ _ _ _ _
      cases (cc == Value.type "enumerate")
      · wp_walk using wpAny_loadPart' ht, wpAny_pyIter_tuple hT
        exact ⟨_, rfl, h⟩
      · wp_walk using wpAny_loadPart' ht, wpAny_pyIter_tuple hT
        exact ⟨_, rfl, h⟩
    · wp_walk using wpAny_loadPart' ht, wpAny_pyIter_tuple hT
      exact ⟨_, rfl, h⟩
theorem callEnumT {t : Addr} {vs : Array Value} {Q : Value → Shared → Prop} (hT : s.heap.IsTuple t vs)
    (fin : ∀ h2, IsEnum h2 (s.heap.objs.size + 1) s.heap.objs.size 0 .none → h2.IsTupleIter s.heap.objs.size t 0 → (∀ b o, s.heap.get? b = some o → h2.get? b = some o) →
      Q (.ref (s.heap.objs.size + 1)) { s with heap := h2 }) : wpAny (model P w) A (call (.type "enumerate") [.ref t]) Q E s := by
  obtain ⟨⟨c1, c2, c3, c4⟩, ht, e1, k, e2⟩ := hT
  have e1 : c1 = .type "tuple" := e1
  have e2 : c3 = .seq vs k := e2
  subst e1 e2
  refine callType_new F.called_enumerate (by decide) (F.typeCall_enumerate_1 _) (F.newCall_enumerate_1 _) (fun z => F.args_object_init_2 z _)
    F.entry_enumerate_new (enumMadeT t vs k c2 c4) ⟨ht, ?_⟩
  have size1 : (s.heap.push (itObj t)).objs.size = s.heap.objs.size + 1 := Heap.size_push ..
  show _ ∧ _
  rw [size1]
  have he : IsEnum ((s.heap.push (itObj t)).push (enObj s.heap.objs.size)) (s.heap.objs.size + 1) s.heap.objs.size 0 .none := by
    have z := Heap.get?_push_size (s.heap.push (itObj t)) (o := enObj s.heap.objs.size) rfl
    rw [size1] at z
    exact z
  exact ⟨⟨_, he, rfl⟩, fin _ he ⟨_, Heap.get?_push_of_some _ (Heap.get?_push_size _ rfl), rfl, rfl⟩ fun b o z => Heap.get?_push_of_some _ (Heap.get?_push_of_some _ z)⟩
end
/-- the tuple at a, each item in a new pair behind its number -/
def IteT (K : PySem.W.Frag) (a : Addr) : It where
  go i H := ∃ (xs : List V) (x : V), SqT K H a xs ∧ xs[i]? = some x
  yld i H v H' := ∃ t x, v = .ref t ∧ H t = none ∧ H' = upd H t (.tup [.int (i : Nat), x]) ∧ ∀ xs, SqT K H a xs → xs[i]? = some x
  stop i H := ∃ xs : List V, SqT K H a xs ∧ xs.length ≤ i
theorem turnEnumT {P : Program} {w : World} {K : PySem.W.Frag} {elts : List Expr} {kk : Nat} {tpos : Pos} (a e j : Addr) :
    Turn P w K (.Tuple elts kk tpos) (IteT K a) [e, j] e (fun i h => (∃ v, IsEnum h e j ((i : Nat) : Int) v) ∧ h.IsTupleIter j a i ∧ e ≠ j) where
  mem := List.mem_cons_self
  obj := by
    intro i h st b hb
    obtain ⟨⟨v, he⟩, ⟨o, ho, hc, hd⟩, _⟩ := st
    rcases List.mem_cons.mp hb with rfl | hb
    · exact ⟨_, he, fun _ z => nomatch z⟩
    · rw [List.mem_singleton.mp hb]
      exact ⟨o, ho, fun _ z => by rw [hd] at z; cases z⟩
  keep := by
    intro i h h' st k
    obtain ⟨⟨v, he⟩, ⟨o, ho, r⟩, far⟩ := st
    exact ⟨⟨v, k e List.mem_cons_self _ he⟩, ⟨o, k j (List.mem_cons_of_mem _ List.mem_cons_self) o ho, r⟩, far⟩
  item := by
    intro X hP hw hK calm i pins s σ H E I hf st hg
    subst hP hw hK
    obtain ⟨⟨v, he⟩, hj, far⟩ := st
    obtain ⟨xs, x, hq, hx⟩ := hg
    obtain ⟨its, rv, hp, _⟩ := I.tuple hq
    obtain ⟨u, hu, ru⟩ := rv.get hx
    have le : e < s.heap.objs.size := Heap.lt_size he
    have lj : j < s.heap.objs.size := by
      obtain ⟨_, z, _⟩ := hj
      exact Heap.lt_size z
    have hne : a ≠ j := by
      intro z
      obtain ⟨o1, a1, b1, _⟩ := hj
      obtain ⟨o2, a2, b2, _⟩ := hp
      rw [z, a1] at a2
      cases a2
      rw [b1] at b2
      exact absurd (Value.type.inj b2) (by decide)
    have hea : e ∉ [j, a] := by
      intro z
      rcases List.mem_cons.mp z with z | z
      · exact far z
      · have z := List.mem_singleton.mp z
        obtain ⟨o2, a2, b2, _⟩ := hp
        rw [← z, he] at a2
        cases a2
        exact absurd (Value.type.inj b2) (by decide)
    have hi : i < its.toArray.size := by
      rw [List.size_toArray]
      exact (List.getElem?_eq_some_iff.mp hu).1
    refine wpAny_pyNext_enum_itemD (drawsTup (A := X.A.in1) (I.ok.hd calm) j a hne its.toArray) he ⟨hj, hp⟩ hi far hea fun y h2 tk hy ho st2 hT2 _ hk => ?_
    have ey : y = u := by
      have hy : its.toArray[i]? = some y := hy
      rw [List.getElem?_toArray, hu] at hy
      exact (Option.some.inj hy).symm
    subst ey
    refine ⟨_, rfl, wpAny_letOwnedTupleGo_enum (s := { s with heap := h2, toks := tk + 1 }) ho fun h3 he3 sb => ?_⟩
    have hT3 : h3.get? s.heap.objs.size = some { cls := .type "tuple", data := .seq #[.int i tk, y] } := (sb.2 _ (Nat.ne_of_gt le)).trans hT2
    have fresh : ObjOk X.prog X.w (upd H s.heap.objs.size (.tup [.int (i : Nat), x])) h3 s.heap.objs.size (.tup [.int (i : Nat), x]) :=
      ⟨by show 2 ≤ sizeLine; decide, [.int i tk, y], .cons ⟨_, rfl⟩ (.cons ru .nil), ⟨_, hT3, rfl, _, rfl⟩⟩
    have I3 : Inv X pins σ (upd H s.heap.objs.size (.tup [.int (i : Nat), x])) { s with heap := h3, toks := tk + 1 } :=
      I.turnedNew (ch := [e, j]) (fun b ob hb z => (sb.2 b (fun r => hb (by simp [r]))).trans (hk b ob (fun r => hb (by simp [r])) (fun r => hb (by simp [r])) z)) hf (Nat.le_refl _) fresh
    refine ⟨.ref s.heap.objs.size, _, I3, rfl, ⟨_, x, rfl, I.hok.fresh (Nat.le_refl _), rfl, fun ys hy => by rw [I.tuple_inj hy hq]; exact hx⟩, ⟨⟨y, ?_⟩, ?_, far⟩, fun b hb => ?_⟩
    · rw [show ((i + 1 : Nat) : Int) = (i : Int) + 1 by omega]
      exact he3
    · obtain ⟨⟨o, z, r⟩, _⟩ := st2
      exact ⟨o, (sb.2 j (Ne.symm far)).trans z, r⟩
    · have lb : b < s.heap.objs.size := by
        rcases List.mem_cons.mp hb with z | z
        · rw [z]; exact le
        · rw [List.mem_singleton.mp z]; exact lj
      rw [upd_ne (Nat.ne_of_lt lb)]
      exact (hf b hb).1
  done := by
    intro X hP hw hK calm i pins s σ H E I hf st hg
    subst hP hw hK
    obtain ⟨⟨v, he⟩, hj, far⟩ := st
    obtain ⟨xs, hq, hx⟩ := hg
    obtain ⟨its, rv, hp, _⟩ := I.tuple hq
    obtain ⟨f0, f1, f2, f3, f4, f5⟩ := hf j (List.mem_cons_of_mem _ List.mem_cons_self)
    have hl := rv.length
    have hn : its.toArray[i]? = none := by
      rw [List.getElem?_toArray]
      exact List.getElem?_eq_none (by omega)
    exact wpAny_pyNext_enum_endD (drawnOut (A := X.A.in1) (I.ok.hd calm) j a its.toArray i hn) he ⟨rfl, hj, hp⟩ fun h2 eb => ⟨rfl, I.turned (t' := s.toks) (fun b o hb z => eb b o hb z) f0 f1 f3 f4 f5⟩
  self := by
    intro A i s Q E st h
    obtain ⟨⟨_, he⟩, _⟩ := st
    exact wpAny_pyIter_enum he h
def iEnumT (K : PySem.W.Frag) (ta : TA) : TI := fun σ H R => ta σ H fun vs G => ∃ a xs, vs = [.ref a] ∧ SqT K G a xs ∧ R (IteT K a) G
theorem pi_enumT {X : Cx} {K : PySem.W.Frag} {e : Expr} {ta : TA} {p1 p2 p3 : Pos} {elts : List Expr} {kk : Nat} (hg : Gl X "enumerate") (hm : X.mg "enumerate" = none) (ha : PA X [e] ta)
    (hK : X.K = K := by rfl) (star : starEach [e] X.env = [(false, eval e X.env)] := by rfl) : PI X (.Tuple elts kk p3) (.Call (.Name "enumerate" p1) [e] [] p2) (iEnumT K ta) := by
  subst hK
  constructor
  intro pins s σ H R I h
  refine Call_ (ld_blt I hg hm boot_enumerate (PyProof.Rows.callWith_type1 (thn (ha.run p2 pins s σ H _ I h) fun us t ⟨vs, G, J, rr, qq⟩ => ?_) star rfl))
  obtain ⟨a, xs, rfl, hq, q⟩ := qq
  cases rr with
  | cons r rr =>
    cases rr
    cases r
    obtain ⟨its, rv, hp, _⟩ := J.tuple hq
    refine callEnumT (show t.heap.IsTuple a its.toArray from hp) fun h2 he hj hk => wpAny_pyIter_enum he ?_
    have J2 : Inv X pins σ G { t with heap := h2 } := J.kept (t' := t.toks) hk
    refine ⟨t.heap.objs.size + 1, [t.heap.objs.size + 1, t.heap.objs.size], _, _, G, rfl, J2, turnEnumT a (t.heap.objs.size + 1) t.heap.objs.size, ⟨⟨.none, he⟩, hj, Nat.succ_ne_self _⟩, fun b hb => ?_, q⟩
    have lb : t.heap.objs.size ≤ b := by
      rcases List.mem_cons.mp hb with z | z
      · rw [z]; exact Nat.le_succ _
      · rw [List.mem_singleton.mp z]; exact Nat.le_refl _
    exact J.fpOk lb (J.hok.fresh lb)
theorem walk_enumT {K : PySem.W.Frag} {a : Addr} {xs : List V} : Walk (IteT K a) xs.length (fun H => SqT K H a xs) (YPair (fun i => some (.int (i : Nat))) (fun i => xs[i]?)) where
  goes i H hi q := ⟨xs, xs[i], q, List.getElem?_eq_getElem hi⟩
  stops H q := ⟨xs, q, Nat.le_refl _⟩
  yields i H v H' _ q y := by
    obtain ⟨t, x, h1, h2, h3, h4⟩ := y
    exact ⟨t, .int (i : Nat), x, h1, h2, h3, rfl, h4 xs q⟩
section
variable {X : Cx}
end
end FF
namespace FF
open PySem PySem.Spec PyProof.Rows L2
variable [LT]
/-! ### what is walked: a list or a tuple -/
section
variable {X : Cx}
def iSeq (K : PySem.W.Frag) (tl : TE) : TI := fun σ H R => tl σ H fun x G => ∃ a xs, x = .ref a ∧ ((SqL K G a xs ∧ R (Itl K a) G) ∨ (SqT K G a xs ∧ R (Itt K a) G))
theorem pi_seq {K : PySem.W.Frag} {tg l : Expr} {tl : TE} (hl : PE X l tl) (hK : X.K = K := by rfl) : PI X tg l (iSeq K tl) := by
  subst hK
  constructor
  intro pins s σ H R I h
  refine thn (hl.run pins s σ H _ I h) fun v t ⟨x, G, J, rx, a, xs, ex, hq⟩ => ?_
  subst ex
  cases rx
  rcases hq with ⟨hq, q⟩ | ⟨hq, q⟩
  · obtain ⟨its, _, p, _⟩ := J.list hq
    exact wpAny_pyIter_list p.isList (pi_one (tk := t.toks) J _ (turn_list a _) ⟨_, Heap.get?_push_size _ rfl, rfl, rfl⟩ q)
  · obtain ⟨its, _, p, _⟩ := J.tuple hq
    exact wpAny_pyIter_tuple (show t.heap.IsTuple a its.toArray from p) (pi_one (tk := t.toks) J _ (turn_tuple a _) ⟨_, Heap.get?_push_size _ rfl, rfl, rfl⟩ q)
end
section
variable {α : Type} {g : TG} {tt : TT} {te : TE} {vs : List Nat} {σ0 : L2.St} {yl : α → V → Hp → (α → Hp → Prop) → Prop} {dn : α → Hp → Prop} {H0 : Hp} {a0 : α} {J : It} {n : Nat} {Gd : Hp → Prop} {Y : Nat → Hp → V → Hp → Prop}
theorem gx_it (w : Walk J n Gd Y) (Pv : Nat → α → Hp → Prop) (h0 : Pv 0 a0 H0) (hG : ∀ i a H, i ≤ n → Pv i a H → Gd H)
    (hs : ∀ (i : Nat) x a H H', i < n → Pv i a H → Y i H x H' → g x σ0 H' fun σ2 H2 => wipe σ2 vs = σ0 ∧ tt σ2 H2 fun b H3 => if b = true then te σ2 H3 fun y H4 => yl a y H4 (Pv (i + 1)) else Pv (i + 1) a H3) (hd : ∀ a H, Pv n a H → dn a H) :
    ∃ W : Nat → Nat → α → Hp → Prop, (∃ m, W 0 m a0 H0) ∧ GxT J g tt te vs σ0 W yl dn := by
  refine ⟨fun i m a H => m = n - i ∧ i ≤ n ∧ Pv i a H, ⟨_, rfl, Nat.zero_le _, h0⟩, ?_⟩
  rintro i m a H ⟨rfl, hi, p⟩
  have ok := hG i a H hi p
  by_cases hlt : i < n
  · exact .inr ⟨w.goes i H hlt ok, Pv (i + 1), fun a' H' p' => ⟨n - (i + 1), by omega, rfl, hlt, p'⟩, fun x H1 y => hs i x a H H1 hlt p (w.yields i H x H1 hlt ok y)⟩
  · have e : i = n := by omega
    subst e
    exact .inl ⟨w.stops H ok, hd a H p⟩
end
section
variable {g : TG} {tt : TT} {te : TE} {vs : List Nat} {σ0 : L2.St} {yl : Unit → V → Hp → (Unit → Hp → Prop) → Prop} {dn : Unit → Hp → Prop} {H0 : Hp} {J : It} {n : Nat} {Gd : Hp → Prop} {Y : Nat → Hp → V → Hp → Prop}
theorem gx_all (w : Walk J n Gd Y) (Pv : Nat → Hp → Prop) (h0 : Pv 0 H0) (hG : ∀ i H, i ≤ n → Pv i H → Gd H)
    (hs : ∀ (i : Nat) x H H', i < n → Pv i H → Y i H x H' → g x σ0 H' fun σ2 H2 => wipe σ2 vs = σ0 ∧ tt σ2 H2 fun b H3 => if b = true then te σ2 H3 fun y H4 => yl () y H4 (fun _ => Pv (i + 1)) else Pv (i + 1) H3) (hd : ∀ H, Pv n H → dn () H) :
    ∃ W : Nat → Nat → Hp → Prop, (∃ m, W 0 m H0) ∧ GxT (α := Unit) J g tt te vs σ0 (fun i m _ H => W i m H) yl dn := by
  obtain ⟨W, ⟨m, hm⟩, hW⟩ := gx_it (a0 := ()) w (fun i _ H => Pv i H) h0 (fun i _ H => hG i H) (fun i x _ H H' => hs i x H H') (fun _ H => hd H)
  exact ⟨fun i m H => W i m () H, ⟨m, hm⟩, hW⟩
end
end FF
namespace FF
open PySem PySem.Spec PyProof.Rows L2
variable [LT]
/-! ### ties by layers -/
def layerOf (ts : List (Int × Int)) (ws : List V) (f : Int) : List (Int × Int) := ((ts.zip ws).filter fun p => decide (p.2 = V.int f)).map Prod.fst
theorem layerOf_snoc {ts : List (Int × Int)} {ws : List V} (h : ts.length = ws.length) (t : Int × Int) (x : V) (f : Int) :
    layerOf (ts ++ [t]) (ws ++ [x]) f = layerOf ts ws f ++ if x = V.int f then [t] else [] := by
  unfold layerOf
  rw [List.zip_append h, List.filter_append, List.map_append]
  congr 1
  show (List.filter (fun p => decide (p.2 = V.int f)) [(t, x)]).map Prod.fst = _
  by_cases e : x = V.int f
  · rw [List.filter_cons_of_pos (p := fun p : (Int × Int) × V => decide (p.2 = V.int f)) (a := (t, x)) (decide_eq_true e), if_pos e]
    rfl
  · rw [List.filter_cons_of_neg (by rw [decide_eq_false e]; decide), if_neg e]
    rfl
theorem layerOf_length (ts : List (Int × Int)) (ws : List V) (f : Int) : (layerOf ts ws f).length ≤ ts.length := by
  unfold layerOf
  rw [List.length_map]
  refine Nat.le_trans (List.length_filter_le _ _) ?_
  rw [List.length_zip]
  omega
theorem layerOf_none {ts : List (Int × Int)} {ws : List V} {f : Int} (h : ∀ x ∈ ws, x ≠ V.int f) : layerOf ts ws f = [] := by
  unfold layerOf
  rw [List.filter_eq_nil_iff.mpr fun p hp => ?_]
  · rfl
  · obtain ⟨u, x⟩ := p
    rw [decide_eq_false (h x (List.of_mem_zip hp).2)]
    decide
/-! ### first fit -/
def freeB (ts : List (Int × Int)) (ws : List V) (t : Int × Int) (f : Int) : Bool := ringlessF (fun x => x) (layerOf ts ws f ++ [t])
inductive FFat (k : Int) (ts : List (Int × Int)) (ws : List V) (t : Int × Int) : V → Prop where
  | out : (∀ f, 0 ≤ f → f < k → freeB ts ws t f = false) → FFat k ts ws t .non
  | at_ {f : Int} : 0 ≤ f → f < k → freeB ts ws t f = true → (∀ g, 0 ≤ g → g < f → freeB ts ws t g = false) → FFat k ts ws t (.int f)
structure FF (k : Int) (ts : List (Int × Int)) (ws : List V) : Prop where
  len : ws.length = ts.length
  each : ∀ i t x, ts[i]? = some t → ws[i]? = some x → FFat k (ts.take i) (ws.take i) t x
theorem FF.nil {k : Int} : FF k [] [] := ⟨rfl, fun i t x h => by simp at h⟩
theorem FF.snoc {k : Int} {ts : List (Int × Int)} {ws : List V} {t : Int × Int} {x : V} (h : FF k ts ws) (hx : FFat k ts ws t x) : FF k (ts ++ [t]) (ws ++ [x]) := by
  have hl := h.len
  refine ⟨by rw [List.length_append, List.length_append, hl]; rfl, fun i u y hu hy => ?_⟩
  by_cases e : i < ts.length
  · rw [List.getElem?_append_left e] at hu
    rw [List.getElem?_append_left (by omega)] at hy
    rw [List.take_append_of_le_length (by omega), List.take_append_of_le_length (by omega)]
    exact h.each i u y hu hy
  · have hi : i = ts.length := by
      have := (List.getElem?_eq_some_iff.mp hu).1
      rw [List.length_append] at this
      have : i < ts.length + 1 := this
      omega
    subst hi
    rw [List.getElem?_append_right (Nat.le_refl _), Nat.sub_self] at hu
    rw [← hl, List.getElem?_append_right (Nat.le_refl _), Nat.sub_self] at hy
    cases hu
    cases hy
    rw [List.take_left, ← hl, List.take_left]
    exact hx
theorem FF.low {k : Int} {ts : List (Int × Int)} {ws : List V} (h : FF k ts ws) (hne : ∀ t ∈ ts, t.1 ≠ t.2) : ∀ (i : Nat) (f : Int), ws[i]? = some (V.int f) → f ≤ (i : Int) := by
  intro i
  induction i using Nat.strongRecOn with
  | _ i ih =>
    intro f hf
    have hi := (List.getElem?_eq_some_iff.mp hf).1
    have hit : i < ts.length := by rw [← h.len]; exact hi
    have ht := List.getElem?_eq_getElem hit
    have hx := h.each i _ _ ht hf
    by_cases c : f ≤ (i : Int)
    · exact c
    · cases hx with
      | at_ h0 h1 h2 h3 =>
        have z := h3 (i : Int) (by omega) (by omega)
        unfold freeB at z
        rw [layerOf_none] at z
        · have hn := hne _ (List.getElem_mem hit)
          show f ≤ _
          rw [List.nil_append] at z
          exact absurd z (by
            show ¬ (if _ = _ then false else true) = false
            rw [if_neg hn]
            decide)
        · intro x hx e
          obtain ⟨j, hj⟩ := List.getElem?_of_mem hx
          have hjl := (List.getElem?_eq_some_iff.mp hj).1
          rw [List.length_take] at hjl
          rw [List.getElem?_take_of_lt (by omega)] at hj
          rw [e] at hj
          have := ih j (by omega) _ hj
          omega
/-- forest i is empty when the i-th tie comes -/
theorem FF.empty {k : Int} {ts : List (Int × Int)} {ws : List V} (h : FF k ts ws) (hne : ∀ t ∈ ts, t.1 ≠ t.2) {i : Nat} {t : Int × Int} (ht : ts[i]? = some t) : freeB (ts.take i) (ws.take i) t (i : Int) = true := by
  have hi := (List.getElem?_eq_some_iff.mp ht).1
  unfold freeB
  rw [layerOf_none]
  · rw [List.nil_append]
    show (if _ = _ then false else true) = true
    rw [if_neg (hne _ (List.mem_of_getElem? ht))]
  · intro x hx e
    obtain ⟨j, hj⟩ := List.getElem?_of_mem hx
    have hjl := (List.getElem?_eq_some_iff.mp hj).1
    rw [List.length_take] at hjl
    rw [List.getElem?_take_of_lt (by omega), e] at hj
    have := h.low hne j _ hj
    omega
theorem first_of {p : Int → Bool} {f m : Int} (h0 : 0 ≤ f) (h1 : f < m) (hp : p f = true) (hq : ∀ g, 0 ≤ g → g < f → p g = false) : ∃ r, (upTo m).filter p = f :: r := by
  have e : upTo m = upTo f ++ (f :: (upTo m).drop (f.toNat + 1)) := by
    have hf : (upTo m)[f.toNat]? = some f := by
      unfold upTo
      rw [List.getElem?_map, List.getElem?_range (by omega)]
      show some ((f.toNat : Nat) : Int) = some f
      rw [show ((f.toNat : Nat) : Int) = f by omega]
    have ht : (upTo m).take f.toNat = upTo f := by
      unfold upTo
      rw [← List.map_take, List.take_range, Nat.min_eq_left (by omega)]
    have z := take_rest hf
    rw [ht, List.append_assoc] at z
    exact z
  rw [e, List.filter_append, List.filter_eq_nil_iff.mpr fun g hg => by rw [hq g (mem_upTo hg).1 (mem_upTo hg).2]; decide, List.filter_cons_of_pos hp]
  exact ⟨_, rfl⟩
theorem FF.head {k : Int} {ts : List (Int × Int)} {ws : List V} (h : FF k ts ws) (hne : ∀ t ∈ ts, t.1 ≠ t.2) {i : Nat} {t : Int × Int} {x : V} (ht : ts[i]? = some t) (hx : ws[i]? = some x) :
    ∃ r, (((upTo (min k ((i : Int) + 1))).filter (freeB (ts.take i) (ws.take i) t)).map V.int) ++ [V.non] = x :: r := by
  have c := h.each i t x ht hx
  cases c with
  | out z =>
    rw [List.filter_eq_nil_iff.mpr fun g hg => by rw [z g (mem_upTo hg).1 (by have := (mem_upTo hg).2; omega)]; decide]
    exact ⟨[], rfl⟩
  | @at_ f h0 h1 h2 h3 =>
    have l := h.low hne i f hx
    obtain ⟨r, e⟩ := first_of (m := min k ((i : Int) + 1)) h0 (by omega) h2 h3
    rw [e]
    exact ⟨_, rfl⟩
theorem FF.ints {k : Int} {ts : List (Int × Int)} {ws : List V} (h : FF k ts ws) (hne : ∀ t ∈ ts, t.1 ≠ t.2) (hk : (ts.length : Int) ≤ k) : ∃ ns : List Int, ws = ns.map V.int := by
  refine ⟨ws.map fun v => match v with | .int i => i | _ => 0, ?_⟩
  rw [List.map_map]
  conv => lhs; rw [← List.map_id ws]
  refine List.map_congr_left fun x hx => ?_
  obtain ⟨i, hi⟩ := List.getElem?_of_mem hx
  have hil := (List.getElem?_eq_some_iff.mp hi).1
  have hit : i < ts.length := by rw [← h.len]; exact hil
  have ht := List.getElem?_eq_getElem hit
  have c := h.each i _ x ht hi
  cases c with
  | out z =>
    have e := h.empty hne ht
    rw [z _ (by omega) (by omega)] at e
    cases e
  | at_ => rfl
/-- numbers of forests, or none -/
def IsO (x : V) : Prop := x = .non ∨ ∃ i, x = .int i
theorem FF.isO {k : Int} {ts : List (Int × Int)} {ws : List V} (h : FF k ts ws) : ∀ x ∈ ws, IsO x := fun x hx => by
  obtain ⟨i, hi⟩ := List.getElem?_of_mem hx
  have hil := (List.getElem?_eq_some_iff.mp hi).1
  have hit : i < ts.length := by rw [← h.len]; exact hil
  have c := h.each i _ x (List.getElem?_eq_getElem hit) hi
  cases c with
  | out => exact .inl rfl
  | at_ => exact .inr ⟨_, rfl⟩
theorem IsO.scal {x : V} (h : IsO x) (i : Int) : scal x (.int i) = true := by
  rcases h with rfl | ⟨j, rfl⟩ <;> rfl
/-! ### several forests of leaders -/
theorem Ke.and {S : Addr → Prop} {H H1 H2 : Hp} (a : Ke H H1) (b : Kx S H1 H2) (h : ∀ x, S x → H x = none) : Ke H H2 := by
  refine ⟨fun c o e n q => b.at_ c o (a.at_ c o e n q) n fun z => ?_, fun c t => b.tab c (a.tab c t), fun c e => a.dom c (b.dom c e), fun c ps l q e => b.lam c ps l (fun z => ?_) (a.lam c ps l (fun z => z) e)⟩
  · rw [h c z] at e
    cases e
  · rw [h c z] at e
    cases e
theorem freeB_eq {ts : List (Int × Int)} {ws : List V} {t : Int × Int} {f : Int} (h : ringlessF (fun x => x) (layerOf ts ws f) = true) : freeB ts ws t f = !decide (foldR (fun x => x) (layerOf ts ws f) t.1 = foldR (fun x => x) (layerOf ts ws f) t.2) := ringlessF_more h t
end FF
namespace FF
open PySem PySem.Spec PyProof.Rows L2
variable [LT]
/-! ### the numbers of the ties of a forest -/
def numsFrom (f : Int) : Nat → List V → List Int
  | _, [] => []
  | i, x :: r => (if x = V.int f then [(i : Int)] else []) ++ numsFrom f (i + 1) r
theorem nums_snoc (f : Int) : ∀ (i : Nat) (ws : List V) (x : V), numsFrom f i (ws ++ [x]) = numsFrom f i ws ++ if x = V.int f then [((i + ws.length : Nat) : Int)] else []
  | i, [], x => by
    show (if x = V.int f then [(i : Int)] else []) ++ [] = [] ++ _
    rw [List.append_nil, List.nil_append]
    rfl
  | i, y :: ws, x => by
    show _ ++ numsFrom f (i + 1) (ws ++ [x]) = _
    rw [nums_snoc f (i + 1) ws x, ← List.append_assoc]
    show _ = ((if y = V.int f then [(i : Int)] else []) ++ numsFrom f (i + 1) ws) ++ _
    rw [List.length_cons, show i + 1 + ws.length = i + (ws.length + 1) by omega]
theorem nums_bd (f : Int) : ∀ (i : Nat) (ws : List V), ∀ m ∈ numsFrom f i ws, (i : Int) ≤ m ∧ m < ((i + ws.length : Nat) : Int)
  | i, [], m, h => nomatch h
  | i, y :: ws, m, h => by
    rcases List.mem_append.mp h with h | h
    · by_cases e : y = V.int f
      · rw [if_pos e] at h
        rw [List.mem_singleton.mp h, List.length_cons]
        omega
      · rw [if_neg e] at h
        cases h
    · have := nums_bd f (i + 1) ws m h
      rw [List.length_cons]
      omega
theorem nums_length (f : Int) : ∀ (i : Nat) (ws : List V), (numsFrom f i ws).length ≤ ws.length
  | _, [] => Nat.le_refl _
  | i, y :: ws => by
    have := nums_length f (i + 1) ws
    show ((if y = V.int f then [(i : Int)] else []) ++ numsFrom f (i + 1) ws).length ≤ ws.length + 1
    rw [List.length_append]
    split
    · show 1 + _ ≤ _
      omega
    · show 0 + _ ≤ _
      omega
theorem pick_nums (f : Int) : ∀ (pre ts : List (Int × Int)) (ws : List V), ts.length = ws.length → pick (pre ++ ts) (numsFrom f pre.length ws) = layerOf ts ws f
  | pre, [], [], _ => rfl
  | pre, t :: ts, x :: ws, h => by
    have ih := pick_nums f (pre ++ [t]) ts ws (by simpa using h)
    rw [List.append_assoc, List.length_append] at ih
    show pick (pre ++ t :: ts) ((if x = V.int f then [(pre.length : Int)] else []) ++ numsFrom f (pre.length + 1) ws) = _
    rw [pick_append]
    have e1 : pick (pre ++ t :: ts) (numsFrom f (pre.length + 1) ws) = layerOf ts ws f := ih
    rw [e1]
    have e2 : layerOf (t :: ts) (x :: ws) f = (if x = V.int f then [t] else []) ++ layerOf ts ws f := by
      unfold layerOf
      rw [List.zip_cons_cons]
      by_cases e : x = V.int f
      · rw [List.filter_cons_of_pos (p := fun p : (Int × Int) × V => decide (p.2 = V.int f)) (a := (t, x)) (decide_eq_true e), if_pos e]
        rfl
      · rw [List.filter_cons_of_neg (p := fun p : (Int × Int) × V => decide (p.2 = V.int f)) (a := (t, x)) (by rw [decide_eq_false e]; decide), if_neg e]
        rfl
    rw [e2]
    congr 1
    by_cases e : x = V.int f
    · rw [if_pos e, if_pos e]
      show [(pre ++ t :: ts).getD ((pre.length : Int)).toNat (0, 0)] = [t]
      rw [show ((pre.length : Int)).toNat = pre.length by omega, List.getD_eq_getElem?_getD, List.getElem?_append_right (Nat.le_refl _), Nat.sub_self]
      rfl
    · rw [if_neg e, if_neg e]
      rfl
/-! ### ties by forest, in a dict -/
def kvF (fl : List (Int × Addr)) : List (Key × V) := fl.map fun p => (Sum.inl p.1, V.ref p.2)
structure Byf (H : Hp) (ws : List V) (fl : List (Int × Addr)) : Prop where
  nd : (fl.map Prod.fst).Nodup
  na : (fl.map Prod.snd).Nodup
  each : ∀ p ∈ fl, H p.2 = some (.lst ((numsFrom p.1 0 ws).map V.int))
  mem : ∀ f, V.int f ∈ ws ↔ f ∈ fl.map Prod.fst
theorem Byf.ke {H H' : Hp} {ws : List V} {fl : List (Int × Addr)} (h : Byf H ws fl) (k : Ke H H') : Byf H' ws fl := ⟨h.nd, h.na, fun p hp => k.lst (h.each p hp), h.mem⟩
theorem val_in : ∀ {fl : List (Int × Addr)} {f : Int} {q : Addr}, (fl.map Prod.fst).Nodup → (f, q) ∈ fl → valV (kvF fl) (Sum.inl f) = some (.ref q)
  | p :: fl, f, q, nd, h => by
    rw [List.map_cons, List.nodup_cons] at nd
    rcases List.mem_cons.mp h with h | h
    · rw [← h]
      exact valV_pos rfl
    · have hne : p.1 ≠ f := fun z => nd.1 (z ▸ List.mem_map.mpr ⟨(f, q), h, rfl⟩)
      exact (valV_neg (p := (Sum.inl p.1, V.ref p.2)) (r := kvF fl) fun z => hne (Sum.inl.inj z)).trans (val_in nd.2 h)
theorem val_out {fl : List (Int × Addr)} {f : Int} (h : f ∉ fl.map Prod.fst) : valV (kvF fl) (Sum.inl f) = none := by
  unfold valV kvF
  rw [List.find?_eq_none.mpr fun x hx => ?_]
  · rfl
  · obtain ⟨p, hp, rfl⟩ := List.mem_map.mp hx
    rw [decide_eq_false fun z => h (List.mem_map.mpr ⟨p, hp, Sum.inl.inj z⟩)]
    decide
theorem put_out {fl : List (Int × Addr)} {f : Int} {q : Addr} (h : f ∉ fl.map Prod.fst) : putK (kvF fl) (Sum.inl f) (.ref q) = kvF (fl ++ [(f, q)]) := by
  unfold putK
  rw [valV_any, val_out h]
  show kvF fl ++ [(Sum.inl f, V.ref q)] = kvF (fl ++ [(f, q)])
  unfold kvF
  rw [List.map_append]
  rfl
theorem kvF_length (fl : List (Int × Addr)) : (kvF fl).length = fl.length := List.length_map ..
theorem Byf.skip {H : Hp} {ws : List V} {fl : List (Int × Addr)} (h : Byf H ws fl) : Byf H (ws ++ [.non]) fl :=
  ⟨h.nd, h.na, fun p hp => by rw [nums_snoc, if_neg (fun z => nomatch z), List.append_nil]; exact h.each p hp, fun f => by
    rw [List.mem_append, h.mem f]
    refine ⟨fun z => z.elim id fun z => ?_, Or.inl⟩
    exact nomatch List.mem_singleton.mp z⟩
/-- one more of a forest that has some -/
theorem Byf.more {H : Hp} {ws : List V} {fl : List (Int × Addr)} (h : Byf H ws fl) {f : Int} {q : Addr} (hq : (f, q) ∈ fl) : Byf (upd H q (.lst ((numsFrom f 0 ws).map V.int ++ [.int ws.length]))) (ws ++ [.int f]) fl := by
  refine ⟨h.nd, h.na, fun p hp => ?_, fun g => ?_⟩
  · rw [nums_snoc]
    by_cases e : p.1 = f
    · have e2 : p = (f, q) := by
        have n := h.nd
        have a1 := val_in n (show (p.1, p.2) ∈ fl from hp)
        have a2 := val_in n hq
        rw [e, a2] at a1
        have := Option.some.inj a1
        cases this
        exact Prod.ext e rfl
      rw [e2, upd_same, if_pos rfl, List.map_append, Nat.zero_add]
      rfl
    · have hne : p.2 ≠ q := fun z => by
        have n := h.na
        obtain ⟨i, hi⟩ := List.getElem?_of_mem hp
        obtain ⟨j, hj⟩ := List.getElem?_of_mem hq
        obtain ⟨li, ei⟩ := List.getElem?_eq_some_iff.mp hi
        obtain ⟨lj, ej⟩ := List.getElem?_eq_some_iff.mp hj
        have z2 : (fl.map Prod.snd)[i]'(by rw [List.length_map]; exact li) = (fl.map Prod.snd)[j]'(by rw [List.length_map]; exact lj) := by
          rw [List.getElem_map, List.getElem_map, ei, ej]
          exact z
        have ij := (List.getElem_inj n).mp z2
        subst ij
        rw [ei] at ej
        exact e (congrArg Prod.fst ej)
      rw [upd_ne hne, if_neg (fun z => e (V.int.inj z).symm), List.append_nil]
      exact h.each p hp
  · rw [List.mem_append, h.mem g]
    refine ⟨fun z => z.elim id fun z => ?_, .inl⟩
    have := V.int.inj (List.mem_singleton.mp z)
    rw [this]
    exact List.mem_map.mpr ⟨_, hq, rfl⟩
theorem nums_none {f : Int} : ∀ {i : Nat} {ws : List V}, V.int f ∉ ws → numsFrom f i ws = []
  | _, [], _ => rfl
  | i, x :: ws, h => by
    show (if x = V.int f then [(i : Int)] else []) ++ numsFrom f (i + 1) ws = []
    rw [if_neg (show ¬ x = V.int f from fun z => h (z ▸ List.mem_cons_self)), nums_none fun z => h (List.mem_cons_of_mem _ z)]
    rfl
/-- the first of a forest -/
theorem Byf.first {H : Hp} {ws : List V} {fl : List (Int × Addr)} (h : Byf H ws fl) {f : Int} {q : Addr} (hf : f ∉ fl.map Prod.fst) (hq : q ∉ fl.map Prod.snd) : Byf (upd H q (.lst [.int ws.length])) (ws ++ [.int f]) (fl ++ [(f, q)]) := by
  refine ⟨?_, ?_, fun p hp => ?_, fun g => ?_⟩
  · rw [List.map_append, List.nodup_append]
    exact ⟨h.nd, by simp, fun x hx y hy => by rw [List.mem_singleton.mp hy]; exact fun (z : x = f) => hf (z ▸ hx)⟩
  · rw [List.map_append, List.nodup_append]
    exact ⟨h.na, by simp, fun x hx y hy => by rw [List.mem_singleton.mp hy]; exact fun (z : x = q) => hq (z ▸ hx)⟩
  · rw [nums_snoc]
    rcases List.mem_append.mp hp with hp | hp
    · have e1 : p.1 ≠ f := fun z => hf (z ▸ List.mem_map.mpr ⟨p, hp, rfl⟩)
      have e2 : p.2 ≠ q := fun z => hq (z ▸ List.mem_map.mpr ⟨p, hp, rfl⟩)
      rw [upd_ne e2, if_neg (fun z => e1 (V.int.inj z).symm), List.append_nil]
      exact h.each p hp
    · rw [List.mem_singleton.mp hp, upd_same, if_pos rfl, nums_none (fun z => hf ((h.mem f).mp z)), Nat.zero_add]
      rfl
  · rw [List.mem_append, h.mem g, List.map_append, List.mem_append]
    refine ⟨fun z => z.elim .inl fun z => .inr ?_, fun z => z.elim .inl fun z => .inr ?_⟩
    · rw [V.int.inj (List.mem_singleton.mp z)]
      exact List.mem_singleton.mpr rfl
    · rw [show g = f from List.mem_singleton.mp z]
      exact List.mem_singleton.mpr rfl
theorem Byf.off {H : Hp} {ws : List V} {fl : List (Int × Addr)} {d : Addr} {o : HO} (h : Byf H ws fl) (hd : d ∉ fl.map Prod.snd) : Byf (upd H d o) ws fl :=
  ⟨h.nd, h.na, fun p hp => by rw [upd_ne (show p.2 ≠ d from fun z => hd (z ▸ List.mem_map.mpr ⟨p, hp, rfl⟩))]; exact h.each p hp, h.mem⟩
end FF
namespace FF
open PySem PySem.Spec PyProof.Rows L2
variable [LT]
/-! ### layings -/
def okE (k : Int) (x : V) : Bool := match x with
  | .non => true
  | v => isNum v 0 (k - 1)
def treeB (ts : List (Int × Int)) (ws : List V) (x : V) : Bool := match x with
  | .int f => ringlessF (fun x => x) (layerOf ts ws f)
  | _ => true
def layO (ts : List (Int × Int)) (k : Int) : Option (List V) → Bool
  | none => false
  | some ws => (decide (ws.length = ts.length) && ws.all (okE k)) && ws.all (treeB ts ws)
theorem okE_O {k : Int} {x : V} (h : okE k x = true) : IsO x := by
  cases x with
  | non => exact .inl rfl
  | int i => exact .inr ⟨i, rfl⟩
  | _ => cases h
theorem layO_len {ts : List (Int × Int)} {k : Int} {ws : List V} (h : ws.length ≠ ts.length) : layO ts k (some ws) = false := by
  show ((decide (ws.length = ts.length) && ws.all (okE k)) && ws.all (treeB ts ws)) = false
  rw [decide_eq_false h]
  rfl
theorem layO_bad {ts : List (Int × Int)} {k : Int} {ws : List V} {x : V} (hx : x ∈ ws) (h : okE k x = false) : layO ts k (some ws) = false := by
  show ((decide (ws.length = ts.length) && ws.all (okE k)) && ws.all (treeB ts ws)) = false
  rw [List.all_eq_false.mpr ⟨x, hx, by rw [h]; decide⟩, Bool.and_false]
  rfl
theorem layO_ring {ts : List (Int × Int)} {k : Int} {ws : List V} {f : Int} (hx : V.int f ∈ ws) (h : ringlessF (fun x => x) (layerOf ts ws f) = false) : layO ts k (some ws) = false := by
  show ((decide (ws.length = ts.length) && ws.all (okE k)) && ws.all (treeB ts ws)) = false
  rw [(List.all_eq_false (p := treeB ts ws)).mpr ⟨_, hx, by show ¬ ringlessF (fun x => x) (layerOf ts ws f) = true; rw [h]; decide⟩, Bool.and_false]
theorem layO_good {ts : List (Int × Int)} {k : Int} {ws : List V} (hl : ws.length = ts.length) (ho : ∀ x ∈ ws, okE k x = true) (h : ∀ f, V.int f ∈ ws → ringlessF (fun x => x) (layerOf ts ws f) = true) : layO ts k (some ws) = true := by
  show ((decide (ws.length = ts.length) && ws.all (okE k)) && ws.all (treeB ts ws)) = true
  rw [decide_eq_true hl, List.all_eq_true.mpr ho, List.all_eq_true.mpr fun x hx => ?_]
  · rfl
  · cases x with
    | int f => exact h f hx
    | _ => rfl
end FF
namespace FF
open PySem PySem.Spec PyProof.Rows L2
variable [LT]
/-! ### what first fit tells is a laying -/
theorem FF.forest {k : Int} {ts : List (Int × Int)} {ws : List V} (h : FF k ts ws) (f : Int) : ringlessF (fun x => x) (layerOf ts ws f) = true := by
  have hl := h.len
  have z : ∀ i, i ≤ ts.length → ringlessF (fun x => x) (layerOf (ts.take i) (ws.take i) f) = true := by
    intro i
    induction i with
    | zero => intro _; rfl
    | succ i ih =>
      intro hi
      have h1 : ts[i]? = some ts[i] := List.getElem?_eq_getElem (by omega)
      have h2 : ws[i]? = some ws[i] := List.getElem?_eq_getElem (by omega)
      have c := h.each i _ _ h1 h2
      rw [take_next h1, take_next h2, layerOf_snoc (by rw [List.length_take, List.length_take]; omega)]
      by_cases e : ws[i] = V.int f
      · rw [if_pos e]
        rw [e] at c
        cases c with
        | at_ _ _ h3 _ => exact h3
      · rw [if_neg e, List.append_nil]
        exact ih (by omega)
  have := z ts.length (Nat.le_refl _)
  rw [List.take_length, ← hl, List.take_length] at this
  exact this
theorem okE_int {k f : Int} (h0 : 0 ≤ f) (h1 : f < k) : okE k (.int f) = true := by
  show (decide (0 ≤ f) && decide (f ≤ k - 1)) = true
  rw [decide_eq_true h0, decide_eq_true (by omega)]
  rfl
theorem FF.lay {k : Int} {ts : List (Int × Int)} {ws : List V} (h : FF k ts ws) : layO ts k (some ws) = true :=
  layO_good h.len (fun x hx => by
    obtain ⟨i, hi⟩ := List.getElem?_of_mem hx
    have hil := (List.getElem?_eq_some_iff.mp hi).1
    have hit : i < ts.length := by rw [← h.len]; exact hil
    have c := h.each i _ x (List.getElem?_eq_getElem hit) hi
    cases c with
    | out => rfl
    | at_ h0 h1 => exact okE_int h0 h1) fun f _ => h.forest f
theorem IsO.ty {H : Hp} {x : V} (h : IsO x) : ∃ n, TyN H x n := by
  rcases h with rfl | ⟨i, rfl⟩
  · exact ⟨_, .non⟩
  · exact ⟨_, .int i⟩
end FF
namespace FF
open PySem PySem.Spec PyProof.Rows L2
variable [LT]
/-! ### a tuple against the empty tuple -/
section
variable {X : Cx} {K : PySem.W.Frag}
def rEq0 (K : PySem.W.Frag) : R2 := fun x y H Q => ∃ a b xs, x = .ref a ∧ y = .ref b ∧ SqT K H a xs ∧ SqT K H b [] ∧ Q (.bl xs.isEmpty) H
theorem op_eq0 (hu : X.A.units + 64 < cLine) (h : X.K = K := by rfl) : OpR X (compareOp .Eq) (rEq0 K) := by
  subst h
  intro pins s σ H x y v u Q I rx ry hq
  obtain ⟨a, b, xs, rfl, rfl, ha, hb, q⟩ := hq
  cases (show v = Value.ref a from rx)
  cases (show u = Value.ref b from ry)
  obtain ⟨its, v1, t1, _⟩ := I.tuple ha
  obtain ⟨its2, v2, t2, _⟩ := I.tuple hb
  have e2 : its2 = [] := by cases v2; rfl
  subst e2
  refine PySem.SeqAt.eq_tupleAt (e := fun _ => true) (show s.heap.IsTuple a its.toArray from t1) (show s.heap.IsTuple b [].toArray from t2) (by omega) (fun j h1 h2 => absurd h2 (by simp)) ?_
  have e : ((List.range (min its.toArray.size ([] : List Value).toArray.size)).all (fun _ => true) && its.toArray.size == ([] : List Value).toArray.size) = xs.isEmpty := by
    cases v1 with
    | nil => rfl
    | cons _ _ => simp
  rw [e]
  exact ⟨.bl xs.isEmpty, H, I, rfl, q⟩
end
/-! ### things of any kind, kept -/
theorem TyN.ke {H H' : Hp} {v : V} {n : String} (h : TyN H v n) (k : Ke H H') : TyN H' v n := by
  cases h with
  | non => exact .non
  | bl b => exact .bl b
  | int i => exact .int i
  | str z => exact .str z
  | lst h => exact .lst (k.lst h)
  | tup h => exact .tup (k.tup h)
  | dic h => exact .dic (k.at_ _ _ h (fun _ z => nomatch z) fun z => z)
theorem TyN.new {H : Hp} {p : Addr} {o : HO} {v : V} {n : String} (h : TyN H v n) (k : H p = none) : TyN (upd H p o) v n := h.ke (Ke.new k)
theorem TyN.put {H : Hp} {p : Addr} {xs ys : List V} {v : V} {n : String} (h : TyN H v n) (k : H p = some (.lst xs)) : TyN (upd H p (.lst ys)) v n := by
  cases h with
  | non => exact .non
  | bl b => exact .bl b
  | int i => exact .int i
  | str z => exact .str z
  | @lst a zs h =>
    by_cases e : a = p
    · exact .lst (xs := ys) (by rw [e]; exact upd_same)
    · exact .lst (by rw [upd_ne e]; exact h)
  | tup h => exact .tup (by rw [upd_ne (ne_of h k (fun z => nomatch z))]; exact h)
  | dic h => exact .dic (by rw [upd_ne (ne_of h k (fun z => nomatch z))]; exact h)
theorem TyN.dk {H H' : Hp} {p : Addr} {v : V} {n : String} (h : TyN H v n) (k : Dk p H H') (d : Deck H p) : TyN H' v n := by
  obtain ⟨ds, hp, _⟩ := d
  cases h with
  | non => exact .non
  | bl b => exact .bl b
  | int i => exact .int i
  | str z => exact .str z
  | @lst a zs h =>
    by_cases e : a = p
    · obtain ⟨ds', hp', _⟩ := k.d
      exact .lst (xs := ds'.map V.int) (by rw [e]; exact hp')
    · exact .lst (k.lst h e)
  | tup h => exact .tup (k.k.tup h (ne_of h hp (fun z => nomatch z)))
  | dic h => exact .dic (k.k.at_ _ _ h (fun _ z => nomatch z) (ne_of h hp (fun z => nomatch z)))
theorem Tpl.mono {H H' : Hp} {v : V} {o : Option (List V)} (h : Tpl H v o) (k : ∀ q xs, H q = some (.tup xs) → H' q = some (.tup xs)) (y : ∀ v n, TyN H v n → TyN H' v n) : Tpl H' v o := by
  cases h with
  | yes h hx => exact .yes (k _ _ h) fun x hm => (hx x hm).elim fun n hn => ⟨n, y _ _ hn⟩
  | no h hn => exact .no (y _ _ h) hn
theorem Tpl.ke {H H' : Hp} {v : V} {o : Option (List V)} (h : Tpl H v o) (k : Ke H H') : Tpl H' v o := h.mono (fun _ _ => k.tup) fun _ _ z => z.ke k
theorem Tpl.ty {H : Hp} {v : V} {o : Option (List V)} (h : Tpl H v o) : ∃ n, TyN H v n := by
  cases h with
  | yes h _ => exact ⟨_, .tup h⟩
  | no h _ => exact ⟨_, h⟩
end FF
namespace FF
open PySem PySem.Spec PyProof.Rows L2
variable [LT]
/-! ### t[::-1] of a tuple -/
section
variable {prog : Program} {w : World} {A : Around} {E : Value → Shared → Prop} {s : Shared}
end
section
variable {X : Cx}
end
theorem cutV_mem {xs : List V} {lo hi : Option Int} {x : V} (h : x ∈ cutV xs lo hi) : x ∈ xs := by
  unfold cutV at h
  exact List.mem_of_mem_drop (List.mem_of_mem_take h)
end FF
namespace FF
open PySem PySem.Spec PyProof.Rows L2
variable [LT]
/-! ### data: shapes and equality -/
structure Sh (k : Nat) (d : PyData) : Prop where
  lay : d.canLay0 = true
  dep : d.depth ≤ k
theorem Sh.shaped {k : Nat} {d : PyData} (h : Sh k d) (hk : k ≤ 64 := by decide) : SeqAt.shaped d = true := by
  unfold SeqAt.shaped
  rw [h.lay, decide_eq_true (Nat.le_trans h.dep hk)]
  rfl
theorem Sh.int {i : Int} : Sh 0 (.int i) := ⟨rfl, Nat.le_refl _⟩
theorem Sh.none : Sh 0 .none := ⟨rfl, Nat.le_refl _⟩
theorem Sh.bool {b : Bool} : Sh 0 (.bool b) := ⟨rfl, Nat.le_refl _⟩
theorem sh_all {k : Nat} : ∀ {ds : List PyData}, (∀ d ∈ ds, Sh k d) → PyData.canLayAll0 ds = true ∧ PyData.depthAll ds ≤ k
  | [], _ => ⟨rfl, Nat.zero_le _⟩
  | d :: r, h => by
    obtain ⟨h1, h2⟩ := sh_all (ds := r) fun x hx => h x (List.mem_cons_of_mem _ hx)
    have h3 := h d List.mem_cons_self
    refine ⟨?_, ?_⟩
    · show (d.canLay0 && PyData.canLayAll0 r) = true
      rw [h3.lay, h1]
      rfl
    · show max d.depth (PyData.depthAll r) ≤ k
      exact Nat.max_le.mpr ⟨h3.dep, h2⟩
theorem Sh.tup {k : Nat} {ds : List PyData} (h : ∀ d ∈ ds, Sh k d) : Sh (k + 1) (.tuple ds) := ⟨(sh_all h).1, Nat.succ_le_succ (sh_all h).2⟩
theorem Sh.lst {k : Nat} {ds : List PyData} (h : ∀ d ∈ ds, Sh k d) : Sh (k + 1) (.list ds) := ⟨(sh_all h).1, Nat.succ_le_succ (sh_all h).2⟩
def dO (x : V) : PyData := match x with
  | .int i => .int i
  | _ => .none
theorem dp_O {K : PySem.W.Frag} {H : Hp} : ∀ {ws : List V}, (∀ x ∈ ws, IsO x) → DpAll K H ws (ws.map dO)
  | [], _ => .nil
  | x :: r, h => by
    refine .cons ?_ (dp_O fun y hy => h y (List.mem_cons_of_mem _ hy))
    rcases h x List.mem_cons_self with rfl | ⟨i, rfl⟩
    · exact .non
    · exact .int i
theorem shaped_tints (ls : List Int) : SeqAt.shaped (.tuple (ls.map PyData.int)) = true := (Sh.tup (k := 0) fun d hd => by
  obtain ⟨x, _, rfl⟩ := List.mem_map.mp hd
  exact Sh.int).shaped
end FF
namespace FF
open PySem PySem.Spec PyProof.Rows L2
variable [LT]
/-! ### pieces -/
theorem upTo_mem {n x : Int} : x ∈ upTo n ↔ 0 ≤ x ∧ x < n := by
  refine ⟨mem_upTo, fun ⟨h0, h1⟩ => ?_⟩
  unfold upTo
  exact List.mem_map.mpr ⟨x.toNat, List.mem_range.mpr (by omega), by omega⟩
theorem upTo_up (n : Int) : (upTo n).Pairwise (· < ·) := by
  unfold upTo
  rw [List.pairwise_map]
  exact List.pairwise_lt_range.imp fun h => by omega
def least (g : Int → Int) (x : Int) : Bool := (upTo x).all fun y => !decide (g y = g x)
def piece (g : Int → Int) (n x : Int) : List Int := (upTo n).filter fun y => decide (g y = g x)
/-- rising lists with the same members are one -/
theorem up_same : ∀ {l m : List Int}, l.Pairwise (· < ·) → m.Pairwise (· < ·) → (∀ x, x ∈ l ↔ x ∈ m) → l = m
  | [], [], _, _, _ => rfl
  | [], b :: s, _, _, h => by have := (h b).mpr List.mem_cons_self; cases this
  | a :: r, [], _, _, h => by have := (h a).mp List.mem_cons_self; cases this
  | a :: r, b :: s, hl, hm, h => by
    obtain ⟨l1, l2⟩ := List.pairwise_cons.mp hl
    obtain ⟨m1, m2⟩ := List.pairwise_cons.mp hm
    have e : a = b := by
      have h1 := (h a).mp List.mem_cons_self
      have h2 := (h b).mpr List.mem_cons_self
      rcases List.mem_cons.mp h1 with z | z
      · exact z
      · rcases List.mem_cons.mp h2 with y | y
        · exact y.symm
        · have := l1 b y
          have := m1 a z
          omega
    subst e
    congr 1
    refine up_same l2 m2 fun x => ⟨fun hx => ?_, fun hx => ?_⟩
    · rcases List.mem_cons.mp ((h x).mp (List.mem_cons_of_mem _ hx)) with z | z
      · have := l1 x hx
        omega
      · exact z
    · rcases List.mem_cons.mp ((h x).mpr (List.mem_cons_of_mem _ hx)) with z | z
      · have := m1 x hx
        omega
      · exact z
/-- tuples of ints -/
def Lots (H : Hp) (rs : List V) (pss : List (List Int)) : Prop := Paired (fun (r : V) (ls : List Int) => ∃ q, r = .ref q ∧ H q = some (.tup (ls.map V.int))) rs pss
theorem Lots.mono {H H' : Hp} {rs : List V} {pss : List (List Int)} (h : Lots H rs pss) (k : ∀ q xs, H q = some (.tup xs) → H' q = some (.tup xs)) : Lots H' rs pss := L2.Paired.mapP h fun _ _ ⟨q, e, z⟩ => ⟨q, e, k q _ z⟩
theorem Lots.ke {H H' : Hp} {rs : List V} {pss : List (List Int)} (h : Lots H rs pss) (k : Ke H H') : Lots H' rs pss := h.mono fun _ _ => k.tup
theorem Lots.new {H : Hp} {p : Addr} {o : HO} {rs : List V} {pss : List (List Int)} (h : Lots H rs pss) (k : H p = none) : Lots (upd H p o) rs pss := h.mono fun _ _ => tup_new k
theorem Lots.put {H : Hp} {p : Addr} {o : HO} {ys : List V} {rs : List V} {pss : List (List Int)} (h : Lots H rs pss) (k : H p = some (.lst ys)) : Lots (upd H p o) rs pss := h.mono fun q xs e => by rw [upd_ne (ne_of e k (fun z => nomatch z))]; exact e
theorem Lots.length {H : Hp} {rs : List V} {pss : List (List Int)} (h : Lots H rs pss) : rs.length = pss.length := Paired.length h
theorem Lots.append {H : Hp} : ∀ {rs qs : List V} {ps us : List (List Int)}, Lots H rs ps → Lots H qs us → Lots H (rs ++ qs) (ps ++ us)
  | _, _, _, _, .nil, b => b
  | _, _, _, _, .cons r t, b => .cons r (Lots.append t b)
theorem Lots.one {H : Hp} {q : Addr} {ls : List Int} (h : H q = some (.tup (ls.map V.int))) : Lots H [.ref q] [ls] := .cons ⟨q, rfl, h⟩ .nil
theorem Lots.get {H : Hp} : ∀ {rs : List V} {ps : List (List Int)} {i : Nat} {r : V}, Lots H rs ps → rs[i]? = some r → ∃ ls q, ps[i]? = some ls ∧ r = .ref q ∧ H q = some (.tup (ls.map V.int))
  | _, _, _, _, .nil, e => by simp at e
  | _, _, 0, _, .cons (b := t) ⟨q, e1, e2⟩ _, e => by simp at e; subst e; exact ⟨t, q, rfl, e1, e2⟩
  | _, _, i + 1, r, .cons _ t, e => by
    obtain ⟨u, q, h1, h2, h3⟩ := Lots.get (i := i) (r := r) t (by simpa using e)
    exact ⟨u, q, by simpa using h1, h2, h3⟩
theorem Lots.dp {K : PySem.W.Frag} {H : Hp} : ∀ {rs : List V} {ps : List (List Int)}, Lots H rs ps → DpAll K H rs (ps.map fun l => .tuple (l.map PyData.int))
  | _, _, .nil => .nil
  | _, _, .cons ⟨q, e, h⟩ t => by
    subst e
    exact .cons (.tup (sqT_of h) (dp_ints _)) (Lots.dp t)
end FF
namespace FF
open PySem PySem.Spec PyProof.Rows L2
variable [LT]
/-! ### max and set of tuples of ints -/
section
variable {X : Cx} {K : PySem.W.Frag}
def rSetT (K : PySem.W.Frag) (w : World) : List V → Hp → VK → Prop := fun xs H Q => ∃ (l : Addr) (ns : List Int), xs = [V.ref l] ∧ SqT K H l (ns.map V.int) ∧ ns.length ≤ 1000 ∧
  ∀ (p : Addr) (c : Nat), H p = none → c ≤ ns.length → Q (.ref p) (upd H p (SetO w p (fun j => decide (j ∈ ns)) c))
theorem cr_setT (hc : X.calm = true) : CallR X (.type "set") (rSetT X.K X.w) := by
  intro pins s σ H xs us Q I r h
  obtain ⟨l, ns, rfl, hl, hb, q⟩ := h
  rw [Vals.ref1 r]
  obtain ⟨its, rv, pl, hz⟩ := I.tuple hl
  refine call_set_tupI (w := X.w) ns (I.ok.hd hc) (show s.heap.IsTuple l its.toArray from pl) (by simpa using RZ.intsAre_vals rv) (by unfold scanBound; omega) fun h' tk c R hcn k => ?_
  exact ⟨.ref s.heap.objs.size, _, I.laid (t' := tk) k (Nat.le_refl _) (setO_new R), rfl, q _ c (I.hok.fresh (Nat.le_refl _)) hcn⟩
end
end FF
namespace FF
open PySem PySem.Spec PyProof.Rows L2
variable [LT]
/-! ### ties between parts -/
def between (ps : List Int) (ts : List (Int × Int)) : Nat := (ts.filter fun t => !decide (hat ps t.1 = hat ps t.2)).length
/-! ### ties between and within are all -/
theorem inside_cons (ls : List Int) (t : Int × Int) (ts : List (Int × Int)) : inside ls (t :: ts) = (if (decide (t.1 ∈ ls) && decide (t.2 ∈ ls)) = true then 1 else 0) + inside ls ts := by
  unfold inside
  rw [List.filter_cons]
  split
  · rw [List.length_cons, Nat.add_comm]
  · rw [Nat.zero_add]
theorem sum_add {α : Type} (f g : α → Int) : ∀ l : List α, (l.map fun x => f x + g x).sum = (l.map f).sum + (l.map g).sum
  | [] => rfl
  | x :: r => by
    simp only [List.map_cons, List.sum_cons]
    rw [sum_add f g r]
    omega
theorem sum_one {m : Int} (g : Int → Int) : ∀ {l : List Int}, l.Nodup → m ∈ l → (∀ x ∈ l, x ≠ m → g x = 0) → (l.map g).sum = g m
  | x :: r, nd, hm, h0 => by
    obtain ⟨n1, n2⟩ := List.nodup_cons.mp nd
    rw [List.map_cons, List.sum_cons]
    by_cases e : x = m
    · subst e
      have : (r.map g).sum = 0 := by
        have hz : ∀ y ∈ r, g y = 0 := fun y hy => h0 y (List.mem_cons_of_mem _ hy) fun c => n1 (c ▸ hy)
        clear h0 nd n2 hm n1
        induction r with
        | nil => rfl
        | cons y r ih =>
          rw [List.map_cons, List.sum_cons, hz y List.mem_cons_self, ih fun z hz' => hz z (List.mem_cons_of_mem _ hz')]
          rfl
      omega
    · rcases List.mem_cons.mp hm with c | hm
      · exact absurd c.symm e
      · rw [h0 x List.mem_cons_self e, sum_one g n2 hm fun y hy => h0 y (List.mem_cons_of_mem _ hy)]
        omega
theorem sum_zero {α : Type} (g : α → Int) : ∀ {l : List α}, (∀ x ∈ l, g x = 0) → (l.map g).sum = 0
  | [], _ => rfl
  | x :: r, h => by
    rw [List.map_cons, List.sum_cons, h x List.mem_cons_self, sum_zero g fun y hy => h y (List.mem_cons_of_mem _ hy)]
    rfl
/-- ties join: both ends have one root -/
theorem rstep_keep {r : Int → Int} {t : Int × Int} {x y : Int} (h : r x = r y) : rstep r t x = rstep r t y := by
  unfold rstep
  rw [h]
theorem foldR_keep : ∀ {ts : List (Int × Int)} {r : Int → Int} {x y : Int}, r x = r y → foldR r ts x = foldR r ts y
  | [], _, _, _, h => h
  | t :: ts, r, _, _, h => foldR_keep (ts := ts) (r := rstep r t) (rstep_keep h)
theorem foldR_tie : ∀ {ts : List (Int × Int)} {r : Int → Int} {t : Int × Int}, t ∈ ts → foldR r ts t.1 = foldR r ts t.2
  | u :: ts, r, t, h => by
    rcases List.mem_cons.mp h with rfl | h
    · refine foldR_keep (ts := ts) (r := rstep r t) ?_
      unfold rstep
      rw [if_pos rfl]
      by_cases c : r t.1 = r t.2
      · rw [if_pos c]
      · rw [if_neg c]
    · exact foldR_tie (ts := ts) (r := rstep r u) h
end FF
namespace FF
open PySem PySem.Spec PyProof.Rows L2
variable [LT]
/-! ### tuple * int, from 0 on -/
section
variable {X : Cx}
end
end FF
namespace FF
open PySem PySem.Spec PyProof.Rows L2
variable [LT]
/-! ### hung forests -/
structure Nd where
  top : Int
  dep : Int
  up : Option (Int × Int)
def Nd.vals (d : Nd) : List V := match d.up with
  | none => [.int d.top, .int d.dep, .non, .non]
  | some (y, m) => [.int d.top, .int d.dep, .int y, .int m]
theorem Nd.vals1 (d : Nd) : d.vals[1]? = some (.int d.dep) := by
  unfold Nd.vals
  split <;> rfl
abbrev Nds := List (Option Nd)
/-! ### steps from point to point -/
/-- a tie m leads from x to y -/
def Leads (ts : List (Int × Int)) (m x y : Int) : Prop := ts.getD m.toNat (0, 0) = (x, y) ∨ ts.getD m.toNat (0, 0) = (y, x)
theorem Leads.symm {ts : List (Int × Int)} {m x y : Int} (h : Leads ts m x y) : Leads ts m y x := h.elim .inr .inl
/-! ### hung in part -/
theorem while_gh {α : Type} {c : TT} {tb : TS} {D : Ends} {σ : L2.St} {H : Hp} (Pv : α → L2.St → Hp → Prop) (μ : α → Nat) (a0 : α) (h0 : Pv a0 σ H)
    (hs : ∀ a σ H, Pv a σ H → c σ H fun b H1 => if b = true then tb { D with nx := fun σ' H' => ∃ a', μ a' < μ a ∧ Pv a' σ' H', ct := fun σ' H' => ∃ a', μ a' < μ a ∧ Pv a' σ' H', bk := D.nx } σ H1 else D.nx σ H1)
    (mono : ∀ σ H Q Q', (∀ b H1, Q b H1 → Q' b H1) → c σ H Q → c σ H Q') : tWhile c tb D σ H := by
  refine ⟨fun m σ H => ∃ a, m = μ a ∧ Pv a σ H, ⟨_, a0, rfl, h0⟩, ?_⟩
  rintro m σ H ⟨a, rfl, p⟩
  refine mono σ H _ _ (fun b H1 q => ?_) (hs a σ H p)
  cases b with
  | true => exact ⟨_, fun σ' H' ⟨a', l, p'⟩ => ⟨_, l, a', rfl, p'⟩, q⟩
  | false => exact q
theorem Leads.rng {n : Int} {ts : List (Int × Int)} {m x y : Int} (h : Leads ts m x y) (ok : TOk n [ts.getD m.toNat (0, 0)]) : 0 ≤ y ∧ y < n := by
  have := ok _ List.mem_cons_self
  rcases h with h | h
  · rw [h] at this
    dsimp only at this
    omega
  · rw [h] at this
    dsimp only at this
    omega
end FF
namespace FF
open PySem PySem.Spec PyProof.Rows L2
variable [LT]
/-! ### ways along ties -/
inductive Way (ts : List (Int × Int)) : Int → List Int → Int → Prop where
  | nil (x : Int) : Way ts x [] x
  | cons {m x y z : Int} {l : List Int} : Leads ts m x y → Way ts y l z → Way ts x (m :: l) z
theorem Way.append {ts : List (Int × Int)} {x y z : Int} {l k : List Int} (h : Way ts x l y) (g : Way ts y k z) : Way ts x (l ++ k) z := by
  induction h with
  | nil x => exact g
  | cons hl _ ih => exact .cons hl (ih g)
theorem Way.snoc {ts : List (Int × Int)} {x y z m : Int} {l : List Int} (h : Way ts x l y) (g : Leads ts m y z) : Way ts x (l ++ [m]) z := h.append (.cons g (.nil z))
theorem Way.rev {ts : List (Int × Int)} {x y : Int} {l : List Int} (h : Way ts x l y) : Way ts y l.reverse x := by
  induction h with
  | nil x => exact .nil x
  | cons hl _ ih =>
    rw [List.reverse_cons]
    exact ih.snoc hl.symm
section
variable {n : Int} {ts : List (Int × Int)} {ms : List Int} {ds : Nds}
end
section
variable {n : Int} {ts : List (Int × Int)} {ms : List Int} {ds : Nds} {a0 b0 a b : Int} {xs ys : List Int}
/-- the ring that comes of it -/
structure IsRing (ts : List (Int × Int)) (ms : List Int) (a b : Int) (ns : List Int) : Prop where
  way : Way ts a ns b
  nd : ns.Nodup
  mem : ∀ m ∈ ns, m ∈ ms
end
/-! ### joined by the ties: the roots tell -/
theorem foldR_fine {g : Int → Int} : ∀ {L : List (Int × Int)} {r : Int → Int}, (∀ x y, r x = r y → g x = g y) → (∀ t ∈ L, g t.1 = g t.2) → ∀ x y, foldR r L x = foldR r L y → g x = g y
  | [], _, h, _, x, y, e => h x y e
  | t :: L, r, h, k, x, y, e => by
    refine foldR_fine (L := L) (r := rstep r t) (fun x y e => ?_) (fun u hu => k u (List.mem_cons_of_mem _ hu)) x y e
    have kt := k t List.mem_cons_self
    unfold rstep at e
    by_cases c1 : r x = r t.2
    · rw [if_pos c1] at e
      by_cases c2 : r y = r t.2
      · exact h x y (c1.trans c2.symm)
      · rw [if_neg c2] at e
        exact (h x t.2 c1).trans (kt.symm.trans (h t.1 y e))
    · rw [if_neg c1] at e
      by_cases c2 : r y = r t.2
      · rw [if_pos c2] at e
        exact (h x t.1 e).trans (kt.trans (h t.2 y c2.symm))
      · rw [if_neg c2] at e
        exact h x y e
theorem Leads.foldR {ts : List (Int × Int)} {ms : List Int} {m x y : Int} (hm : m ∈ ms) (h : Leads ts m x y) : FF.foldR (fun x => x) (pick ts ms) x = FF.foldR (fun x => x) (pick ts ms) y := by
  have hp : ts.getD m.toNat (0, 0) ∈ pick ts ms := List.mem_map.mpr ⟨m, hm, rfl⟩
  have := foldR_tie (r := fun x => x) hp
  rcases h with h | h
  · rw [h] at this
    exact this
  · rw [h] at this
    exact this.symm
section
variable {n : Int} {ts : List (Int × Int)} {ms : List Int} {ds : Nds}
end
theorem nums_at {f : Int} : ∀ {i : Nat} {ws : List V} {m : Int}, m ∈ numsFrom f i ws → ∃ k : Nat, m = ((i + k : Nat) : Int) ∧ ws[k]? = some (.int f)
  | _, [], _, h => nomatch h
  | i, x :: ws, m, h => by
    rcases List.mem_append.mp h with h | h
    · by_cases e : x = V.int f
      · rw [if_pos e] at h
        exact ⟨0, by rw [List.mem_singleton.mp h]; rfl, by rw [e]; rfl⟩
      · rw [if_neg e] at h
        cases h
    · obtain ⟨k, e1, e2⟩ := nums_at h
      exact ⟨k + 1, by rw [e1]; congr 1; omega, by simpa using e2⟩
theorem Way.inv {ts : List (Int × Int)} {x z m : Int} {l : List Int} (h : Way ts x (m :: l) z) : ∃ y, Leads ts m x y ∧ Way ts y l z := by
  cases h with
  | cons a b => exact ⟨_, a, b⟩
theorem Way.stop {ts : List (Int × Int)} {x z : Int} (h : Way ts x [] z) : x = z := by
  cases h
  rfl
theorem nub_of_nd : ∀ {ns : List Int}, ns.Nodup → (nub ns).length = ns.length := fun {ns} h => nd_eq (nub_nd ns) h fun x => mem_nub ns x
end FF
namespace FF
open PySem PySem.Spec PyProof.Rows L2
variable [LT]
/-! ### sum of a tuple of ints -/
section
variable {X : Cx} {K : PySem.W.Frag}
end
end FF
namespace FF
open PySem PySem.Spec PyProof.Rows L2
variable [LT]
/-! ### first fit in fewer forests -/
theorem FF.take {k : Int} {ts : List (Int × Int)} {ws : List V} (h : FF k ts ws) (i : Nat) : FF k (ts.take i) (ws.take i) := by
  refine ⟨by rw [List.length_take, List.length_take, h.len], fun j t x ht hx => ?_⟩
  have hj : j < i := by
    have := (List.getElem?_eq_some_iff.mp ht).1
    rw [List.length_take] at this
    omega
  rw [List.getElem?_take_of_lt hj] at ht hx
  rw [List.take_take, List.take_take, Nat.min_eq_left (by omega)]
  exact h.each j t x ht hx
theorem FF.joined {k : Int} {ts : List (Int × Int)} {ws : List V} (h : FF k ts ws) (i : Nat) (t : Int × Int) (f : Int) : (foldR (fun x => x) (layerOf (ts.take i) (ws.take i) f) t.1 = foldR (fun x => x) (layerOf (ts.take i) (ws.take i) f) t.2) ↔ freeB (ts.take i) (ws.take i) t f = false := by
  rw [freeB_eq ((h.take i).forest f)]
  constructor
  · intro e
    rw [decide_eq_true e]
    rfl
  · intro e
    by_cases c : foldR (fun x => x) (layerOf (ts.take i) (ws.take i) f) t.1 = foldR (fun x => x) (layerOf (ts.take i) (ws.take i) f) t.2
    · exact c
    · rw [decide_eq_false c] at e
      cases e
theorem layerOf_congr {f : Int} : ∀ {ts : List (Int × Int)} {ws ws' : List V}, ws.length = ws'.length → (∀ (j : Nat) x y, ws[j]? = some x → ws'[j]? = some y → (x = V.int f ↔ y = V.int f)) → layerOf ts ws f = layerOf ts ws' f
  | [], _, _, _, _ => rfl
  | t :: ts, [], [], _, _ => rfl
  | t :: ts, x :: ws, y :: ws', hl, h => by
    have ih := layerOf_congr (f := f) (ts := ts) (ws := ws) (ws' := ws') (by simpa using hl) fun j a b ha hb => h (j + 1) a b (by simpa using ha) (by simpa using hb)
    have h0 := h 0 x y rfl rfl
    unfold layerOf at ih ⊢
    rw [List.zip_cons_cons, List.zip_cons_cons, List.filter_cons, List.filter_cons]
    by_cases c : x = V.int f
    · rw [if_pos (decide_eq_true c), if_pos (decide_eq_true (h0.mp c)), List.map_cons, List.map_cons, ih]
    · rw [if_neg (by rw [decide_eq_false c]; decide), if_neg (by rw [decide_eq_false fun z => c (h0.mpr z)]; decide), ih]
theorem FF.more {k K : Int} {ts : List (Int × Int)} {ws ws' : List V} (h : FF k ts ws) (h' : FF K ts ws') (hk : k ≤ K) : ∀ (i : Nat) x y, ws[i]? = some x → ws'[i]? = some y → ∀ f, f < k → (x = V.int f ↔ y = V.int f) := by
  intro i
  induction i using Nat.strongRecOn with
  | _ i ih =>
    intro x y hx hy f hf
    have hil := (List.getElem?_eq_some_iff.mp hx).1
    have hit : i < ts.length := by rw [← h.len]; exact hil
    have ht := List.getElem?_eq_getElem hit
    have c := h.each i _ x ht hx
    have c' := h'.each i _ y ht hy
    have fr : ∀ g, g < k → freeB (ts.take i) (ws.take i) ts[i] g = freeB (ts.take i) (ws'.take i) ts[i] g := fun g hg => by
      unfold freeB
      rw [layerOf_congr (ws := ws.take i) (ws' := ws'.take i) (by rw [List.length_take, List.length_take, h.len, h'.len]) fun j a b ha hb => ?_]
      have hj : j < i := by
        have := (List.getElem?_eq_some_iff.mp ha).1
        rw [List.length_take] at this
        omega
      rw [List.getElem?_take_of_lt hj] at ha hb
      exact ih j hj a b ha hb g hg
    constructor
    · intro e
      subst e
      cases c with
      | at_ f0 f1 ff fb =>
        cases c' with
        | out z =>
          have := z f f0 (by omega)
          rw [← fr f hf, ff] at this
          cases this
        | @at_ g g0 g1 gf gb =>
          by_cases c1 : g < f
          · have := fb g g0 c1
            rw [fr g (by omega), gf] at this
            cases this
          · by_cases c2 : f < g
            · have := gb f f0 c2
              rw [← fr f hf, ff] at this
              cases this
            · rw [show g = f by omega]
    · intro e
      subst e
      cases c' with
      | at_ g0 g1 gf gb =>
        cases c with
        | out z =>
          have := z f g0 hf
          rw [fr f hf, gf] at this
          cases this
        | @at_ g f0 f1 ff fb =>
          by_cases c1 : f < g
          · have := fb f g0 c1
            rw [fr f hf, gf] at this
            cases this
          · by_cases c2 : g < f
            · have := gb g f0 c2
              rw [← fr g f1, ff] at this
              cases this
            · rw [show g = f by omega]
end FF
namespace FF
open PySem PySem.Spec PyProof.Rows L2
variable [LT]
/-! ### two points with many ties -/
def dueV (k : Int) (i : Nat) : V := if (i : Int) < k then .int i else .non
def due (k : Int) (m : Nat) : List V := (List.range m).map (dueV k)
end FF
namespace FF
open PySem PySem.Spec PyProof.Rows L2
variable [LT]
/-! ### forests in any order; ties on the way -/
theorem ringlessF_ker : ∀ (L : List (Int × Int)) {r r' : Int → Int}, (∀ x y, r x = r y ↔ r' x = r' y) → ringlessF r L = ringlessF r' L
  | [], _, _, _ => rfl
  | t :: L, r, r', h => by
    show (if r t.1 = r t.2 then false else ringlessF (rstep r t) L) = (if r' t.1 = r' t.2 then false else ringlessF (rstep r' t) L)
    by_cases c : r t.1 = r t.2
    · rw [if_pos c, if_pos ((h _ _).mp c)]
    · rw [if_neg c, if_neg (fun z => c ((h _ _).mpr z))]
      refine ringlessF_ker L fun x y => ?_
      have h1 := h x y
      have h2 := h x t.2
      have h3 := h y t.2
      have h4 := h x t.1
      have h5 := h y t.1
      have h6 := h t.1 x
      have h7 := h t.1 y
      unfold rstep
      by_cases a1 : r x = r t.2
      · rw [if_pos a1, if_pos (h2.mp a1)]
        by_cases a2 : r y = r t.2
        · rw [if_pos a2, if_pos (h3.mp a2)]
          exact ⟨fun _ => rfl, fun _ => rfl⟩
        · rw [if_neg a2, if_neg (fun z => a2 (h3.mpr z))]
          exact h7
      · rw [if_neg a1, if_neg (fun z => a1 (h2.mpr z))]
        by_cases a2 : r y = r t.2
        · rw [if_pos a2, if_pos (h3.mp a2)]
          exact h4
        · rw [if_neg a2, if_neg (fun z => a2 (h3.mpr z))]
          exact h1
theorem foldR_sub {r : Int → Int} {L L' : List (Int × Int)} (h : ∀ t ∈ L, t ∈ L') (x y : Int) (e : foldR r L x = foldR r L y) : foldR r L' x = foldR r L' y :=
  foldR_fine (fun _ _ z => foldR_keep z) (fun t ht => foldR_tie (r := r) (h t ht)) x y e
theorem ringlessF_swap (r : Int → Int) (t u : Int × Int) (L : List (Int × Int)) : ringlessF r (t :: u :: L) = ringlessF r (u :: t :: L) := by
  show (if r t.1 = r t.2 then false else if rstep r t u.1 = rstep r t u.2 then false else ringlessF (rstep (rstep r t) u) L) = (if r u.1 = r u.2 then false else if rstep r u t.1 = rstep r u t.2 then false else ringlessF (rstep (rstep r u) t) L)
  by_cases c1 : r t.1 = r t.2
  · rw [if_pos c1]
    by_cases c2 : r u.1 = r u.2
    · rw [if_pos c2]
    · rw [if_neg c2, if_pos]
      unfold rstep
      rw [c1]
  · rw [if_neg c1]
    by_cases c2 : r u.1 = r u.2
    · rw [if_pos c2, if_pos]
      unfold rstep
      rw [c2]
    · rw [if_neg c2]
      by_cases c3 : rstep r t u.1 = rstep r t u.2
      · rw [if_pos c3, if_pos]
        unfold rstep at c3 ⊢
        split at c3 <;> split at c3 <;> split <;> split <;> omega
      · rw [if_neg c3, if_neg]
        · refine ringlessF_ker L fun x y => ?_
          have k1 := foldR_sub (r := r) (L := [t, u]) (L' := [u, t]) (fun w hw => by simp at hw ⊢; exact hw.symm) x y
          have k2 := foldR_sub (r := r) (L := [u, t]) (L' := [t, u]) (fun w hw => by simp at hw ⊢; exact hw.symm) x y
          exact ⟨k1, k2⟩
        · intro z
          refine c3 ?_
          unfold rstep at z ⊢
          split at z <;> split at z <;> split <;> split <;> omega
theorem ringlessF_perm {L L' : List (Int × Int)} (h : L.Perm L') : ∀ r : Int → Int, ringlessF r L = ringlessF r L' := by
  induction h with
  | nil => exact fun _ => rfl
  | cons t _ ih =>
    intro r
    show (if r t.1 = r t.2 then false else ringlessF (rstep r t) _) = (if r t.1 = r t.2 then false else ringlessF (rstep r t) _)
    rw [ih]
  | swap t u L => exact fun r => ringlessF_swap r u t L
  | trans _ _ a b => exact fun r => (a r).trans (b r)
theorem forest_apart {r : Int → Int} {L L' : List (Int × Int)} {t : Int × Int} (hp : L.Perm (L' ++ [t])) (h : ringlessF r L = true) : foldR r L' t.1 ≠ foldR r L' t.2 := by
  rw [ringlessF_perm hp r] at h
  cases e : ringlessF r L' with
  | false =>
    rw [ringlessF_bad L' r [t] e] at h
    cases h
  | true =>
    rw [ringlessF_more e, Bool.not_eq_true'] at h
    exact of_decide_eq_false h
theorem but_perm {x : Int} {ms : List Int} (hn : ms.Nodup) (hx : x ∈ ms) : ms.Perm (but x ms ++ [x]) := by
  induction ms with
  | nil => cases hx
  | cons m ms ih =>
    obtain ⟨h1, h2⟩ := List.nodup_cons.mp hn
    by_cases c : m = x
    · subst c
      have e : but m (m :: ms) = ms := by
        unfold but
        rw [List.filter_cons_of_neg (by simp), List.filter_eq_self.mpr]
        intro y hy
        have c : ¬ y = m := fun z => h1 (by rw [← z]; exact hy)
        rw [decide_eq_false c]
        rfl
      rw [e]
      exact (List.perm_append_singleton m ms).symm
    · have hx' : x ∈ ms := (List.mem_cons.mp hx).resolve_left fun z => c z.symm
      have e : but x (m :: ms) = m :: but x ms := by
        unfold but
        rw [List.filter_cons_of_pos]
        rw [decide_eq_false c]
        rfl
      rw [e]
      exact (ih h2 hx').cons m
theorem mem_but {g x : Int} {ms : List Int} : x ∈ but g ms ↔ x ∈ ms ∧ x ≠ g := by
  unfold but
  rw [List.mem_filter, Bool.not_eq_true', decide_eq_false_iff_not]
theorem Way.joined {ts : List (Int × Int)} {ms : List Int} {x y : Int} {l : List Int} (h : Way ts x l y) (hm : ∀ m ∈ l, m ∈ ms) : foldR (fun x => x) (pick ts ms) x = foldR (fun x => x) (pick ts ms) y := by
  induction h with
  | nil x => rfl
  | cons hl _ ih => exact (hl.foldR (hm _ List.mem_cons_self)).trans (ih fun m hm' => hm m (List.mem_cons_of_mem _ hm'))
theorem Way.cut {ts : List (Int × Int)} : ∀ {l : List Int} {x z m : Int}, Way ts x l z → m ∈ l → ∃ (l1 l2 : List Int) (u v : Int), l = l1 ++ m :: l2 ∧ Way ts x l1 u ∧ Leads ts m u v ∧ Way ts v l2 z
  | k :: l, x, z, m, h, hm => by
    obtain ⟨y, h1, h2⟩ := h.inv
    by_cases c : m = k
    · subst c
      exact ⟨[], l, x, y, rfl, .nil x, h1, h2⟩
    · obtain ⟨l1, l2, u, v, e, w1, w2, w3⟩ := h2.cut ((List.mem_cons.mp hm).resolve_left c)
      exact ⟨k :: l1, l2, u, v, by rw [e]; rfl, .cons h1 w1, w2, w3⟩
/-- a tie of a forest is on the way from a to b just if without it they are apart -/
theorem IsRing.mem_iff {ts : List (Int × Int)} {ms ns : List Int} {a b : Int} (h : IsRing ts ms a b ns) (hf : ringlessF (fun x => x) (pick ts ms) = true) (hn : ms.Nodup) (x : Int) : x ∈ ns ↔ x ∈ ms ∧ foldR (fun x => x) (pick ts (but x ms)) a ≠ foldR (fun x => x) (pick ts (but x ms)) b := by
  constructor
  · intro hx
    have hxm := h.mem x hx
    refine ⟨hxm, fun e => ?_⟩
    obtain ⟨l1, l2, u, v, el, w1, w2, w3⟩ := h.way.cut hx
    have hnd := h.nd
    rw [el] at hnd
    have hnd' := List.nodup_append.mp hnd
    have hx1 : ∀ m ∈ l1, m ∈ but x ms := fun m hm => mem_but.mpr ⟨h.mem m (by rw [el]; exact List.mem_append_left _ hm), hnd'.2.2 m hm x List.mem_cons_self⟩
    have hx2 : ∀ m ∈ l2, m ∈ but x ms := fun m hm => mem_but.mpr ⟨h.mem m (by rw [el]; exact List.mem_append_right _ (List.mem_cons_of_mem _ hm)), fun z => (List.nodup_cons.mp hnd'.2.1).1 (z ▸ hm)⟩
    have e1 := w1.joined hx1
    have e2 := w3.joined hx2
    have e3 : foldR (fun x => x) (pick ts (but x ms)) u = foldR (fun x => x) (pick ts (but x ms)) v := e1.symm.trans (e.trans e2.symm)
    have hp : (pick ts ms).Perm (pick ts (but x ms) ++ [ts.getD x.toNat (0, 0)]) := by
      rw [show [ts.getD x.toNat (0, 0)] = pick ts [x] from rfl, ← pick_append]
      exact (but_perm hn hxm).map _
    have ha := forest_apart hp hf
    rcases w2 with w2 | w2
    · rw [w2] at ha
      exact ha e3
    · rw [w2] at ha
      exact ha e3.symm
  · intro ⟨_, hne⟩
    by_cases c : x ∈ ns
    · exact c
    · exact absurd (h.way.joined fun m hm => mem_but.mpr ⟨h.mem m hm, fun z => c (by rw [← z]; exact hm)⟩) hne
end FF
namespace FF
open PySem PySem.Spec PyProof.Rows L2
variable [LT]
/-! ### a search along ties -/
theorem mem_nums {f : Int} : ∀ {i : Nat} {ws : List V} {k : Nat}, ws[k]? = some (.int f) → ((i + k : Nat) : Int) ∈ numsFrom f i ws := by
  intro i ws k h
  obtain ⟨hk, e⟩ := List.getElem?_eq_some_iff.mp h
  have e1 : ws = ws.take k ++ [V.int f] ++ ws.drop (k + 1) := take_rest h
  have app : ∀ (us : List V) (vs : List V) (i : Nat), ∀ x ∈ numsFrom f i us, x ∈ numsFrom f i (us ++ vs) := fun us vs => by
    induction vs generalizing us with
    | nil => intro i x hx; rw [List.append_nil]; exact hx
    | cons v vs ih =>
      intro i x hx
      rw [show us ++ v :: vs = (us ++ [v]) ++ vs by simp]
      refine ih _ i x ?_
      rw [nums_snoc]
      exact List.mem_append_left _ hx
  rw [e1]
  refine app _ _ i _ ?_
  rw [nums_snoc, if_pos rfl, List.length_take, Nat.min_eq_left (by omega)]
  exact List.mem_append_right _ List.mem_cons_self
end FF
namespace FF
open PySem PySem.Spec PyProof.Rows L2
variable [LT]
/-! ### pushes -/
theorem nums_nd (f : Int) : ∀ (i : Nat) (ws : List V), (numsFrom f i ws).Nodup
  | _, [] => List.nodup_nil
  | i, x :: r => by
    show ((if x = V.int f then [(i : Int)] else []) ++ numsFrom f (i + 1) r).Nodup
    rw [List.nodup_append]
    refine ⟨by split <;> simp, nums_nd f (i + 1) r, fun a ha b hb z => ?_⟩
    have := nums_bd f (i + 1) r b hb
    split at ha
    · have := List.mem_singleton.mp ha
      omega
    · cases ha
open Classical in
noncomputable def joinB (ts : List (Int × Int)) (ws : List V) (e : Int × Int) : Bool := decide (foldR (fun x => x) (layerOf ts ws e.2) (ts.getD e.1.toNat (0, 0)).1 = foldR (fun x => x) (layerOf ts ws e.2) (ts.getD e.1.toNat (0, 0)).2)
/-- the tie x is on the ring of the entry e -/
def OnRing (ts : List (Int × Int)) (ws : List V) (e : Int × Int) (x : Int) : Prop := x ∈ numsFrom e.2 0 ws ∧ foldR (fun x => x) (pick ts (but x (numsFrom e.2 0 ws))) (ts.getD e.1.toNat (0, 0)).1 ≠ foldR (fun x => x) (pick ts (but x (numsFrom e.2 0 ws))) (ts.getD e.1.toNat (0, 0)).2
open Classical in
noncomputable def pushB (ts : List (Int × Int)) (ws : List V) : List (Int × Int) → Bool
  | [] => true
  | [e] => !joinB ts ws e
  | e :: e' :: r => (joinB ts ws e && decide (OnRing ts ws e e'.1)) && pushB ts ws (e' :: r)
def layB (ws : List V) (e : Int × Int) : Bool := decide (ws[e.1.toNat]? = some (.int e.2))
end FF
namespace FF
open PySem PySem.Spec PyProof.Rows L2
variable [LT]
/-! ### zip of a list and a tuple, either way -/
end FF
namespace FF
open PySem PySem.Spec PyProof.Rows L2
variable [LT]
/-! ### t.count of a tuple of ints; l[i] op= e -/
section
variable {X : Cx} {K : PySem.W.Frag}
end
/-! ### outs of ways -/
theorem ext_hat {as bs : List Int} (hl : as.length = bs.length) (h : ∀ x : Int, 0 ≤ x → x < as.length → hat as x = hat bs x) : as = bs := by
  refine List.ext_getElem hl fun i h1 h2 => ?_
  have := h (i : Int) (by omega) (by omega)
  unfold hat at this
  rw [Int.toNat_natCast, List.getD_eq_getElem?_getD, List.getD_eq_getElem?_getD, List.getElem?_eq_getElem h1, List.getElem?_eq_getElem h2] at this
  exact this
end FF
namespace FF
open PySem PySem.Spec PyProof.Rows L2
variable [LT]
/-! ### tuples that are known to the object: methods can be asked of them -/
def TF (H : Hp) (a : Addr) (xs : List V) : Prop := ∃ o : Obj, H a = some (.frz o (.tup xs)) ∧ o.dict = none
theorem TF.sq {K : PySem.W.Frag} {H : Hp} {a : Addr} {xs : List V} (h : TF H a xs) : SqT K H a xs := by
  obtain ⟨o, e, _⟩ := h
  exact .inl (.inr ⟨o, e⟩)
theorem TF.ke {H H' : Hp} {a : Addr} {xs : List V} (h : TF H a xs) (k : Ke H H') : TF H' a xs := by
  obtain ⟨o, e, d⟩ := h
  exact ⟨o, k.at_ a _ e (fun _ z => nomatch z) fun z => z, d⟩
theorem TF.new {H : Hp} {p a : Addr} {o : HO} {xs : List V} (h : TF H a xs) (k : H p = none) : TF (upd H p o) a xs := h.ke (Ke.new k)
theorem TF.dk {H H' : Hp} {p a : Addr} {xs : List V} (h : TF H a xs) (k : Dk p H H') (d : Deck H p) : TF H' a xs := by
  obtain ⟨o, e, d'⟩ := h
  obtain ⟨ds, e2, _⟩ := d
  exact ⟨o, k.k.at_ a _ e (fun _ z => nomatch z) (ne_of e e2 (fun z => nomatch z)), d'⟩
theorem TF.put {H : Hp} {p a : Addr} {o : HO} {xs ys : List V} (h : TF H a xs) (k : H p = some (.lst ys)) : TF (upd H p o) a xs := by
  obtain ⟨o, e, d'⟩ := h
  exact ⟨o, by rw [upd_ne (ne_of e k (fun z => nomatch z))]; exact e, d'⟩
section
variable {X : Cx} {K : PySem.W.Frag}
def tBMF (r : V → List V → Hp → VK → Prop) (to : TE) (t : TA) : TE := fun σ H Q => to σ H fun x H1 => (∃ a ys, x = .ref a ∧ TF H1 a ys) ∧ t σ H1 fun xs H2 => r x xs H2 Q
variable {o e : Expr} {es : List Expr} {to : TE} {t : TA} {name : Str} {apos cpos : Pos} {id : String} {r : V → List V → Hp → VK → Prop}
theorem pe_bmF (slot : Slot "tuple" name id) (hty : typeOf (.builtin id) = pure (.type "method_descriptor")) (hm : MtR X id r) (ho : PE X o to) (ha : PA X (e :: es) t)
    (hbase : attributeBase o name X.env (eval o X.env) = eval o X.env := by rfl)
    (hfew : ((backTo cpos (starEach (e :: es) X.env)).all (fun x => !x.1) && (backToKw cpos (keywordEach [] X.env)).all (fun x => x.1.isSome)
      && decide ((e :: es).length + ([] : List Keyword).length + (if ([] : List Keyword).isEmpty then 0 else 1) < 30)) = true := by rfl)
    (hline : (apos.endLine == cpos.line) = true := by rfl) (hs : starEach (e :: es) X.env = (false, eval e X.env) :: starEach es X.env := by rfl) (hplain : (backTo cpos (starEach es X.env)).any (·.1) = false := by rfl) :
    PE X (.Call (.Attribute o name apos) (e :: es) [] cpos) (tBMF r to t) := by
  refine ⟨fun pins s σ H Q I h => ?_⟩
  refine wpAny_Call_method_late hbase hfew hline rfl (thn (ho.run pins s σ H _ I h) fun v s1 ⟨x, H1, I1, r1, ty, q1⟩ => ?_)
  obtain ⟨a, ys, rfl, oo, hoo, hdn⟩ := ty
  cases r1
  obtain ⟨e0, _, its, rv, hT⟩ := I1.hok a _ hoo
  refine ⟨"tuple", id, PySem.F.plainAttrs_tuple, slot, hty, hT.typeIs, fun b eb => ?_, ?_⟩
  · cases eb
    exact ⟨oo, e0, hdn⟩
  have hA := ha.run cpos pins s1 σ H1 _ I1 q1
  rw [hs] at hA ⊢
  refine Calls.callWith_builtin (by show (false || (backTo cpos (starEach es X.env)).any (·.1)) = false; rw [hplain] <;> rfl) (Calls.evalArgs_plain ?_)
  exact thn hA fun us s2 ⟨vs, H2, I2, r2, q2⟩ => hm pins s2 σ H2 (.ref a) vs (.ref a) us Q I2 rfl r2 q2
end
/-! ### a thing: a tuple or not -/
inductive ThK (K : PySem.W.Frag) (H : Hp) : V → Option (List V) → Prop where
  | no {v : V} {nm : String} (h : TyN H v nm) (hn : nm ≠ "tuple") : ThK K H v none
  | yes {a : Addr} {xs : List V} (h : SqT K H a xs) (ht : TyX K H (.ref a) (.type "tuple")) (hx : ∀ x ∈ xs, ∃ n, TyN H x n) : ThK K H (.ref a) (some xs)
theorem Tpl.k {K : PySem.W.Frag} {H : Hp} {v : V} {o : Option (List V)} (h : Tpl H v o) : ThK K H v o := by
  cases h with
  | no h hn => exact .no h hn
  | yes h hx => exact .yes (sqT_of h) (TyN.tup h).x hx
theorem TF.k {K : PySem.W.Frag} {H : Hp} {a : Addr} {xs : List V} (h : TF H a xs) (hx : ∀ x ∈ xs, ∃ n, TyN H x n) : ThK K H (.ref a) (some xs) := by
  have h' := h.sq (K := K)
  obtain ⟨o, e, _⟩ := h
  exact .yes h' (.fTuple e) hx
theorem TF.ints {K : PySem.W.Frag} {H : Hp} {a : Addr} {ws : List Int} (h : TF H a (ws.map V.int)) : ThK K H (.ref a) (some (ws.map V.int)) := h.k (ty_ints ws)
theorem isi_no {K : PySem.W.Frag} {H : Hp} {v : V} {nm : String} (h : TyN H v nm) (hn : nm ≠ "tuple") : PySem.W.kitOne K (.type nm) (.type "tuple") = some false := by
  have := h.isi (K := K) (c := "tuple") (.inr (.inr (.inl rfl)))
  rw [this]
  cases h <;> first | rfl | exact absurd rfl hn
theorem isi_yes {K : PySem.W.Frag} : PySem.W.kitOne K (.type "tuple") (.type "tuple") = some true := kit_ty (by decide +kernel)
/-! ### ways as things -/
end FF
namespace FF
open PySem PySem.Spec PyProof.Rows L2
variable [LT]
/-! ### a def whose last parameter has a default -/
end FF
namespace FF
open PySem PySem.Spec PyProof.Rows L2
variable [LT]
/-! ### data of tuples, to a depth -/
theorem Sh.up {k l : Nat} {d : PyData} (h : Sh k d) (hk : k ≤ l) : Sh l d := ⟨h.1, Nat.le_trans h.2 hk⟩
theorem eqv_list0 (ds : List PyData) : PyData.eqv (.list ds) (.list []) = ds.isEmpty := by
  cases ds <;> rfl
/-! ### ties in another order -/
/-! ### partings as things -/
/-! ### the greatest of some -/
theorem eqvAll_ints : ∀ as bs : List Int, PyData.eqvAll (as.map PyData.int) (bs.map PyData.int) = decide (as = bs)
  | [], [] => by rw [PyData.eqvAll.eq_def]; rfl
  | [], b :: bs => by rw [PyData.eqvAll.eq_def]; rfl
  | a :: as, [] => by rw [PyData.eqvAll.eq_def]; rfl
  | a :: as, b :: bs => by
    rw [List.map_cons, List.map_cons, PyData.eqvAll, eqvAll_ints as bs, PyData.eqv]
    by_cases h : a = b
    · subst h
      by_cases g : as = bs
      · subst g; simp
      · rw [decide_eq_false g, decide_eq_false fun z => g (List.cons.inj z).2, Bool.and_false]
    · rw [decide_eq_false fun z => h (List.cons.inj z).1, show (a == b) = false by simpa using h, Bool.false_and]
theorem eqv_lints (as bs : List Int) : PyData.eqv (.list (as.map PyData.int)) (.list (bs.map PyData.int)) = decide (as = bs) := by
  rw [PyData.eqv]
  exact eqvAll_ints as bs
end FF
namespace FF
open PySem PySem.Spec PyProof.Rows L2
variable [LT]
/-! ### how many are laid -/
def laidN (ws : List V) : Nat := (ws.filter fun x => !decide (x = V.non)).length
theorem laidN_le (ws : List V) : laidN ws ≤ ws.length := List.length_filter_le _ _
end FF
namespace FF
open PySem PySem.Spec PyProof.Rows L2
variable [LT]
/-! ### rising tuples as things -/
def risO (m : Int) : Option (List V) → Bool
  | none => false
  | some xs => rising (m + 1) 0 xs
theorem lotO_ris (n : Int) (o : Option (List V)) : lotO n o = (risO (n - 1) o && match o with
  | none => false
  | some xs => !xs.isEmpty) := by
  match o with
  | none => rfl
  | some [] => rfl
  | some (v :: r) =>
    show rising n 0 (v :: r) = (rising (n - 1 + 1) 0 (v :: r) && true)
    rw [Bool.and_true, Int.sub_add_cancel]
/-! ### how many ties a forest has within a lot -/
theorem nub_glue {a b : Int} {hs : List Int} (ha : a ∈ hs) (hb : b ∈ hs) (h : a ≠ b) : (nub (hs.map fun x => if x = b then a else x)).length + 1 = (nub hs).length := by
  have e : (b :: nub (hs.map fun x => if x = b then a else x)).length = (nub hs).length := by
    refine nd_eq (List.nodup_cons.mpr ⟨fun z => ?_, nub_nd _⟩) (nub_nd _) fun x => ?_
    · rw [mem_nub] at z
      obtain ⟨y, hy, e⟩ := List.mem_map.mp z
      split at e
      · exact h e
      · rename_i hn
        exact hn e
    · rw [mem_nub, List.mem_cons, mem_nub]
      constructor
      · rintro (rfl | hx)
        · exact hb
        · obtain ⟨y, hy, e⟩ := List.mem_map.mp hx
          split at e
          · exact e ▸ ha
          · exact e ▸ hy
      · intro hx
        by_cases e : x = b
        · exact .inl e
        · exact .inr (List.mem_map.mpr ⟨x, hx, by rw [if_neg e]⟩)
  rw [← e, List.length_cons]
theorem lot_count {ls : List Int} : ∀ {ts : List (Int × Int)} {r : Int → Int}, ringlessF r ts = true → (∀ t ∈ ts, t.1 ∈ ls ∧ t.2 ∈ ls) → ts.length + (nub (ls.map (foldR r ts))).length = (nub (ls.map r)).length
  | [], r, _, _ => Nat.zero_add _
  | t :: ts, r, h, hm => by
    obtain ⟨h1, h2⟩ := hm t List.mem_cons_self
    have h : (if r t.1 = r t.2 then false else ringlessF (rstep r t) ts) = true := h
    have e : r t.1 ≠ r t.2 := fun z => by rw [if_pos z] at h; cases h
    rw [if_neg e] at h
    have hr := h
    have ih := lot_count (ls := ls) hr fun t' h' => hm t' (List.mem_cons_of_mem _ h')
    have g := nub_glue (hs := ls.map r) (List.mem_map.mpr ⟨_, h1, rfl⟩) (List.mem_map.mpr ⟨_, h2, rfl⟩) e
    have em : (ls.map r).map (fun x => if x = r t.2 then r t.1 else x) = ls.map (rstep r t) := by
      rw [List.map_map]
      rfl
    rw [em] at g
    have ih : ts.length + (nub (ls.map (foldR (rstep r t) ts))).length = (nub (ls.map (rstep r t))).length := ih
    show ts.length + 1 + (nub (ls.map (foldR (rstep r t) ts))).length = _
    omega
theorem lot_count_le {ls : List Int} {ts : List (Int × Int)} (h : ringlessF (fun x => x) ts = true) (hm : ∀ t ∈ ts, t.1 ∈ ls ∧ t.2 ∈ ls) (hn : ls.Nodup) (he : ls ≠ []) : ts.length + 1 ≤ ls.length := by
  have := lot_count h hm
  rw [List.map_id', nub_of_nd hn] at this
  have h1 : 0 < (nub (ls.map (foldR (fun x => x) ts))).length := by
    cases ls with
    | nil => exact absurd rfl he
    | cons x r =>
      have : foldR (fun x => x) ts x ∈ nub ((x :: r).map (foldR (fun x => x) ts)) := (mem_nub _ _).mpr List.mem_cons_self
      exact List.length_pos_of_mem this
  omega
theorem ringlessF_filter (p : Int × Int → Bool) {L : List (Int × Int)} (h : ringlessF (fun x => x) L = true) : ringlessF (fun x => x) (L.filter p) = true := by
  have hp : L.Perm (L.filter p ++ L.filter fun t => !p t) := (List.filter_append_perm p L).symm
  rw [ringlessF_perm hp] at h
  cases e : ringlessF (fun x => x) (L.filter p) with
  | true => rfl
  | false => rw [ringlessF_bad _ _ _ e] at h; cases h
/-- a forest has at most so many ties within a lot -/
theorem inside_forest {ls : List Int} {L : List (Int × Int)} (h : ringlessF (fun x => x) L = true) (hn : ls.Nodup) (he : ls ≠ []) : inside ls L + 1 ≤ ls.length := by
  refine lot_count_le (ringlessF_filter _ h) (fun t ht => ?_) hn he
  have := (List.mem_filter.mp ht).2
  rw [Bool.and_eq_true, decide_eq_true_eq, decide_eq_true_eq] at this
  exact this
end FF
namespace FF
open PySem PySem.Spec PyProof.Rows L2
variable [LT]
/-! ### laid ties, and how many of them lie within a lot -/
theorem atI_getD {xs : List V} {m : Int} (h0 : 0 ≤ m) (h1 : m < xs.length) : atI xs m = some (xs.getD m.toNat .non) := by
  obtain ⟨k, rfl⟩ : ∃ k : Nat, m = k := ⟨m.toNat, by omega⟩
  have hk : k < xs.length := by omega
  refine atI_nat ?_
  rw [Int.toNat_natCast, List.getD_eq_getElem?_getD, List.getElem?_eq_getElem hk]
  rfl
def laidM (ws : List V) (ms : List Int) : List Int := ms.filter fun m => !decide (ws.getD m.toNat .non = V.non)
theorem laidM_take {ws : List V} {ms : List Int} {i : Nat} {m : Int} (h : ms[i]? = some m) : laidM ws (ms.take (i + 1)) = laidM ws (ms.take i) ++ if (!decide (ws.getD m.toNat .non = V.non)) = true then [m] else [] := by
  unfold laidM
  rw [take_next h, List.filter_append]
  congr 1
  rw [List.filter_cons]
  rfl
def laidT (ts : List (Int × Int)) (ws : List V) : List (Int × Int) := ((ts.zip ws).filter fun p => !decide (p.2 = V.non)).map Prod.fst
theorem laidT_snoc {ts : List (Int × Int)} {ws : List V} (h : ts.length = ws.length) (t : Int × Int) (x : V) : laidT (ts ++ [t]) (ws ++ [x]) = laidT ts ws ++ if (!decide (x = V.non)) = true then [t] else [] := by
  unfold laidT
  rw [List.zip_append h, List.filter_append, List.map_append]
  congr 1
  show (List.filter (fun p : (Int × Int) × V => !decide (p.2 = V.non)) [(t, x)]).map Prod.fst = _
  rw [List.filter_cons]
  dsimp only
  split <;> rfl
theorem pick_laid {ts : List (Int × Int)} {ws : List V} (h : ws.length = ts.length) : ∀ i : Nat, i ≤ ts.length → pick ts (laidM ws (upTo i)) = laidT (ts.take i) (ws.take i)
  | 0, _ => rfl
  | i + 1, hi => by
    have ih := pick_laid h i (by omega)
    have e1 : ts[i]? = some (ts.getD i (0, 0)) := by rw [List.getD_eq_getElem?_getD, List.getElem?_eq_getElem (show i < ts.length by omega)]; rfl
    have e2 : ws[i]? = some (ws.getD i .non) := by rw [List.getD_eq_getElem?_getD, List.getElem?_eq_getElem (show i < ws.length by omega)]; rfl
    rw [take_next e1, take_next e2, laidT_snoc (by rw [List.length_take, List.length_take]; omega), ← ih]
    rw [show ((i + 1 : Nat) : Int) = (i : Int) + 1 by omega, upTo_snoc]
    unfold laidM
    rw [List.filter_append, pick_append]
    congr 1
    rw [List.filter_cons, Int.toNat_natCast]
    split
    · rw [List.filter_nil]
      rfl
    · rfl
theorem layerOf_cons (t : Int × Int) (ts : List (Int × Int)) (x : V) (ws : List V) (f : Int) : layerOf (t :: ts) (x :: ws) f = (if x = V.int f then [t] else []) ++ layerOf ts ws f := by
  unfold layerOf
  rw [List.zip_cons_cons, List.filter_cons]
  dsimp only
  by_cases e : x = V.int f
  · rw [if_pos e, if_pos (decide_eq_true e)]; rfl
  · rw [if_neg e, if_neg (by rw [decide_eq_false e]; decide)]; rfl
theorem laidT_cons (t : Int × Int) (ts : List (Int × Int)) (x : V) (ws : List V) : laidT (t :: ts) (x :: ws) = (if x = V.non then [] else [t]) ++ laidT ts ws := by
  unfold laidT
  rw [List.zip_cons_cons, List.filter_cons]
  dsimp only
  by_cases e : x = V.non
  · rw [if_pos e, if_neg (by rw [decide_eq_true e]; decide)]; rfl
  · rw [if_neg e, if_pos (by rw [decide_eq_false e]; rfl)]; rfl
theorem inside_app (ls : List Int) (ts us : List (Int × Int)) : inside ls (ts ++ us) = inside ls ts + inside ls us := by
  unfold inside
  rw [List.filter_append, List.length_append]
/-- the laid ties within a lot, forest by forest -/
theorem inside_laid {k : Int} (ls : List Int) : ∀ {ts : List (Int × Int)} {ws : List V}, ws.length = ts.length → (∀ x ∈ ws, x = V.non ∨ ∃ f, x = V.int f ∧ 0 ≤ f ∧ f < k) → (inside ls (laidT ts ws) : Int) = ((upTo k).map fun f => (inside ls (layerOf ts ws f) : Int)).sum
  | [], [], _, _ => by
    have : ∀ f ∈ upTo k, (fun f => (inside ls (layerOf [] [] f) : Int)) f = 0 := fun f _ => rfl
    exact (sum_zero _ this).symm
  | t :: ts, x :: ws, hl, hx => by
    have ih := inside_laid ls (ts := ts) (ws := ws) (Nat.succ.inj hl) fun y hy => hx y (List.mem_cons_of_mem _ hy)
    have e : (fun f => (inside ls (layerOf (t :: ts) (x :: ws) f) : Int)) = fun f => (inside ls (if x = V.int f then [t] else []) : Int) + (inside ls (layerOf ts ws f) : Int) := by
      funext f
      rw [layerOf_cons, inside_app, Int.natCast_add]
    rw [e, sum_add, laidT_cons, inside_app, Int.natCast_add, ih]
    congr 1
    rcases hx x List.mem_cons_self with rfl | ⟨f, rfl, f0, f1⟩
    · rw [if_pos rfl]
      refine (sum_zero _ fun f _ => ?_).symm
      rw [if_neg (fun z => nomatch z)]
      rfl
    · rw [if_neg (fun z => nomatch z)]
      rw [sum_one (m := f) _ (upTo_nd k) (upTo_mem.mpr ⟨f0, f1⟩) fun y _ hy => ?_]
      · rw [if_pos rfl]
      · rw [if_neg fun z => hy (V.int.inj z).symm]
        rfl
theorem sum_most {s : Int} {g : Int → Int} : ∀ {l : List Int}, (∀ x ∈ l, g x ≤ s) → (l.map g).sum ≤ l.length * s ∧ ((l.map g).sum = l.length * s ↔ ∀ x ∈ l, g x = s)
  | [], _ => by simp
  | x :: l, h => by
    obtain ⟨i1, i2⟩ := sum_most (l := l) fun y hy => h y (List.mem_cons_of_mem _ hy)
    have hx := h x List.mem_cons_self
    have e : ((x :: l).length : Int) * s = (l.length : Int) * s + s := by
      rw [List.length_cons, Int.natCast_add, Int.add_mul]
      show _ + 1 * s = _
      rw [Int.one_mul]
    rw [List.map_cons, List.sum_cons, e]
    generalize (l.length : Int) * s = c at *
    refine ⟨by omega, fun z y hy => ?_, fun z => ?_⟩
    · have h1 : (l.map g).sum = c := by omega
      rcases List.mem_cons.mp hy with rfl | hy
      · omega
      · exact i2.mp h1 y hy
    · have h1 := i2.mpr fun y hy => z y (List.mem_cons_of_mem _ hy)
      have h2 := z x List.mem_cons_self
      omega
/-- a laying's forests, and none beyond k -/
structure LayK (ts : List (Int × Int)) (k : Int) (ws : List V) : Prop where
  len : ws.length = ts.length
  each : ∀ x ∈ ws, x = V.non ∨ ∃ f, x = V.int f ∧ 0 ≤ f ∧ f < k
  tree : ∀ f, ringlessF (fun x => x) (layerOf ts ws f) = true
theorem LayK.isO {ts : List (Int × Int)} {k : Int} {ws : List V} (h : LayK ts k ws) : ∀ x ∈ ws, IsO x := fun x hx => (h.each x hx).elim .inl fun ⟨f, e, _⟩ => .inr ⟨f, e⟩
theorem LayK.more {ts : List (Int × Int)} {k k' : Int} {ws : List V} (h : LayK ts k ws) (hk : k ≤ k') : LayK ts k' ws := ⟨h.len, fun x hx => (h.each x hx).imp id fun ⟨f, e, f0, f1⟩ => ⟨f, e, f0, Int.lt_of_lt_of_le f1 hk⟩, h.tree⟩
theorem tight_iff {ts : List (Int × Int)} {k : Int} {ws : List V} (h : LayK ts k ws) (hk : 0 ≤ k) {ls : List Int} (hn : ls.Nodup) (he : ls ≠ []) : ((inside ls (laidT ts ws) : Int) = k * ((ls.length : Int) - 1)) ↔ ∀ f, 0 ≤ f → f < k → (inside ls (layerOf ts ws f) : Int) = (ls.length : Int) - 1 := by
  rw [inside_laid ls h.len h.each]
  have hm := sum_most (s := (ls.length : Int) - 1) (g := fun f => (inside ls (layerOf ts ws f) : Int)) (l := upTo k) fun f _ => by
    have := inside_forest (h.tree f) hn he
    show (inside ls (layerOf ts ws f) : Int) ≤ _
    omega
  have hl : ((upTo k).length : Int) = k := by rw [upTo_length]; omega
  rw [hl] at hm
  rw [hm.2]
  exact ⟨fun z f f0 f1 => z f (upTo_mem.mpr ⟨f0, f1⟩), fun z f hf => z f (upTo_mem.mp hf).1 (upTo_mem.mp hf).2⟩
/-! ### all lots -/
def lotsF : Nat → List (List Int)
  | 0 => [[]]
  | n + 1 => lotsF n ++ (lotsF n).map fun l => l ++ [(n : Int)]
theorem lotsF_len : ∀ n : Nat, (lotsF n).length = 2 ^ n
  | 0 => rfl
  | n + 1 => by
    show (lotsF n ++ (lotsF n).map _).length = _
    rw [List.length_append, List.length_map, lotsF_len n, Nat.pow_succ]
    omega
theorem lotsF_ok : ∀ (n : Nat) (l : List Int), l ∈ lotsF n → l.Pairwise (· < ·) ∧ (∀ x ∈ l, 0 ≤ x ∧ x < (n : Int)) ∧ l.length ≤ n
  | 0, l, h => by
    rw [List.mem_singleton.mp h]
    exact ⟨.nil, (fun _ z => nomatch z), Nat.le_refl _⟩
  | n + 1, l, h => by
    rcases List.mem_append.mp (show l ∈ lotsF n ++ (lotsF n).map fun l => l ++ [(n : Int)] from h) with h | h
    · obtain ⟨h1, h2, h3⟩ := lotsF_ok n l h
      exact ⟨h1, fun x hx => by have := h2 x hx; omega, by omega⟩
    · obtain ⟨l', h', rfl⟩ := List.mem_map.mp h
      obtain ⟨h1, h2, h3⟩ := lotsF_ok n l' h'
      refine ⟨?_, fun x hx => ?_, by rw [List.length_append]; exact Nat.succ_le_succ h3⟩
      · rw [List.pairwise_append]
        exact ⟨h1, List.pairwise_singleton _ _, fun a ha b hb => by rw [List.mem_singleton.mp hb]; exact (h2 a ha).2⟩
      · rcases List.mem_append.mp hx with hx | hx
        · have := h2 x hx; omega
        · rw [List.mem_singleton.mp hx]; omega
theorem lotsF_all : ∀ (n : Nat) {l : List Int}, l.Pairwise (· < ·) → (∀ x ∈ l, 0 ≤ x ∧ x < (n : Int)) → l ∈ lotsF n
  | 0, l, _, h => by
    cases l with
    | nil => exact List.mem_singleton.mpr rfl
    | cons x r => have := h x List.mem_cons_self; omega
  | n + 1, l, hp, h => by
    show l ∈ lotsF n ++ (lotsF n).map fun l => l ++ [(n : Int)]
    by_cases hn : (n : Int) ∈ l
    · refine List.mem_append_right _ (List.mem_map.mpr ⟨l.filter fun x => decide (x < n), lotsF_all n (hp.filter _) (fun x hx => ?_), ?_⟩)
      · have h1 := (List.mem_filter.mp hx)
        have := of_decide_eq_true h1.2
        exact ⟨(h x h1.1).1, this⟩
      · refine up_same ?_ hp fun x => ?_
        · rw [List.pairwise_append]
          exact ⟨hp.filter _, List.pairwise_singleton _ _, fun a ha b hb => by rw [List.mem_singleton.mp hb]; exact of_decide_eq_true (List.mem_filter.mp ha).2⟩
        · rw [List.mem_append, List.mem_filter, List.mem_singleton, decide_eq_true_eq]
          constructor
          · rintro (⟨a, _⟩ | rfl)
            · exact a
            · exact hn
          · intro hx
            have := h x hx
            by_cases e : x = n
            · exact .inr e
            · exact .inl ⟨hx, by omega⟩
    · refine List.mem_append_left _ (lotsF_all n hp fun x hx => ?_)
      have := h x hx
      have : x ≠ n := fun z => hn (z ▸ hx)
      omega
def LsL (H : Hp) (rs : List V) (pss : List (List Int)) : Prop := Paired (fun (r : V) (ls : List Int) => ∃ q, r = .ref q ∧ H q = some (.lst (ls.map V.int))) rs pss
theorem LsL.mono {H H' : Hp} {rs : List V} {pss : List (List Int)} (h : LsL H rs pss) (k : ∀ q xs, H q = some (.lst xs) → H' q = some (.lst xs)) : LsL H' rs pss := L2.Paired.mapP h fun _ _ ⟨q, e, z⟩ => ⟨q, e, k q _ z⟩
theorem LsL.ke {H H' : Hp} {rs : List V} {pss : List (List Int)} (h : LsL H rs pss) (k : Ke H H') : LsL H' rs pss := h.mono fun _ _ => k.lst
theorem LsL.length {H : Hp} {rs : List V} {pss : List (List Int)} (h : LsL H rs pss) : rs.length = pss.length := Paired.length h
theorem LsL.append {H : Hp} : ∀ {rs qs : List V} {ps us : List (List Int)}, LsL H rs ps → LsL H qs us → LsL H (rs ++ qs) (ps ++ us)
  | _, _, _, _, .nil, g => g
  | _, _, _, _, .cons h t, g => .cons h (LsL.append t g)
theorem LsL.one {H : Hp} {q : Addr} {ls : List Int} (h : H q = some (.lst (ls.map V.int))) : LsL H [.ref q] [ls] := .cons ⟨q, rfl, h⟩ .nil
theorem LsL.get {H : Hp} : ∀ {rs : List V} {ps : List (List Int)} {i : Nat} {r : V}, LsL H rs ps → rs[i]? = some r → ∃ ls q, ps[i]? = some ls ∧ r = .ref q ∧ H q = some (.lst (ls.map V.int))
  | _, _, 0, _, .cons ⟨q, e, z⟩ _, h => by cases h; exact ⟨_, q, rfl, e, z⟩
  | _, _, i + 1, _, .cons _ t, h => by
    have h : _ = some _ := h
    obtain ⟨ls, q, e, er, hq⟩ := LsL.get (i := i) t h
    exact ⟨ls, q, e, er, hq⟩
theorem Lots.tys {H : Hp} {rs : List V} {pss : List (List Int)} (h : Lots H rs pss) : ∀ r ∈ rs, ∃ ls q, ls ∈ pss ∧ r = .ref q ∧ H q = some (.tup (ls.map V.int)) := fun r hr => by
  obtain ⟨i, hi⟩ := List.mem_iff_getElem?.mp hr
  obtain ⟨ls, q, e, er, hq⟩ := h.get hi
  exact ⟨ls, q, List.mem_of_getElem? e, er, hq⟩
theorem ringlessF_sub {L L' : List (Int × Int)} (s : L'.Sublist L) (h : ringlessF (fun x => x) L = true) : ringlessF (fun x => x) L' = true := by
  obtain ⟨r, hp⟩ := s.exists_perm_append
  rw [ringlessF_perm hp] at h
  cases e : ringlessF (fun x => x) L' with
  | true => rfl
  | false => rw [ringlessF_bad _ _ _ e] at h; cases h
theorem layerOf_nons (ts : List (Int × Int)) (f : Int) : ∀ m : Nat, layerOf ts (List.replicate m .non) f = [] := fun m => by
  unfold layerOf
  rw [List.map_eq_nil_iff, List.filter_eq_nil_iff]
  intro p hp
  have := (List.of_mem_zip (a := p.1) (b := p.2) hp).2
  rw [List.eq_of_mem_replicate this]
  exact fun z => nomatch of_decide_eq_true z
theorem LayK.none (ts : List (Int × Int)) {k : Int} : LayK ts k (List.replicate ts.length .non) := ⟨List.length_replicate, fun x hx => .inl (List.eq_of_mem_replicate hx), fun f => by rw [layerOf_nons]; rfl⟩
theorem LsL.put {H : Hp} {D : Addr} {o : HO} {rs : List V} {pss : List (List Int)} (h : LsL H rs pss) (hn : V.ref D ∉ rs) : LsL (upd H D o) rs pss := by
  induction h with
  | nil => exact .nil
  | cons h _ ih =>
    obtain ⟨q, rfl, hq⟩ := h
    refine .cons ⟨q, rfl, ?_⟩ (ih fun z => hn (List.mem_cons_of_mem _ z))
    rw [upd_ne fun z => hn (by rw [z]; exact List.mem_cons_self)]
    exact hq
theorem Lot.nd {n : Int} {ls : List Int} (h : Lot n ls) : ls.Nodup := h.up.imp fun z => by omega
end FF
namespace FF
open PySem PySem.Spec PyProof.Rows L2
variable [LT]
/-! ### trees -/
theorem layO_k {ts : List (Int × Int)} {k : Int} {ws : List V} (h : layO ts k (some ws) = true) : LayK ts k ws := by
  have h : ((decide (ws.length = ts.length) && ws.all (okE k)) && ws.all (treeB ts ws)) = true := h
  rw [Bool.and_eq_true, Bool.and_eq_true, decide_eq_true_eq, List.all_eq_true, List.all_eq_true] at h
  obtain ⟨⟨h1, h2⟩, h3⟩ := h
  refine ⟨h1, fun x hx => ?_, fun f => ?_⟩
  · have e := h2 x hx
    rcases okE_O e with rfl | ⟨f, rfl⟩
    · exact .inl rfl
    · refine .inr ⟨f, rfl, ?_⟩
      have e : (decide (0 ≤ f) && decide (f ≤ k - 1)) = true := e
      rw [Bool.and_eq_true, decide_eq_true_eq, decide_eq_true_eq] at e
      omega
  · by_cases e : V.int f ∈ ws
    · exact h3 _ e
    · have : layerOf ts ws f = [] := by
        unfold layerOf
        rw [List.map_eq_nil_iff, List.filter_eq_nil_iff]
        intro p hp z
        have := (List.of_mem_zip (a := p.1) (b := p.2) hp).2
        rw [of_decide_eq_true z] at this
        exact e this
      rw [this]
      rfl
theorem LayK.o {ts : List (Int × Int)} {k : Int} {ws : List V} (h : LayK ts k ws) : layO ts k (some ws) = true := layO_good h.len (fun x hx => by
  rcases h.each x hx with rfl | ⟨f, rfl, f0, f1⟩
  · rfl
  · show (decide (0 ≤ f) && decide (f ≤ k - 1)) = true
    rw [decide_eq_true f0, decide_eq_true (by omega : f ≤ k - 1)]; rfl) fun f _ => h.tree f
/-! ### ties with their forests -/
/-! ### rows of a tie and its forest, in the heap -/
end FF
namespace FF
open PySem PySem.Spec PyProof.Rows L2
variable [LT]
theorem LayK.snocF {ts : List (Int × Int)} {k : Int} {ws : List V} {t : Int × Int} {f : Int} (h : LayK ts k ws) (f0 : 0 ≤ f) (f1 : f < k) (hf : freeB ts ws t f = true) : LayK (ts ++ [t]) k (ws ++ [.int f]) := by
  have hl := h.len
  refine ⟨by rw [List.length_append, List.length_append, hl]; rfl, fun x hx => ?_, fun g => ?_⟩
  · rcases List.mem_append.mp hx with hx | hx
    · exact h.each x hx
    · exact .inr ⟨f, List.mem_singleton.mp hx, f0, f1⟩
  · rw [layerOf_snoc hl.symm]
    by_cases e : V.int f = V.int g
    · rw [if_pos e]
      have := V.int.inj e
      subst this
      exact hf
    · rw [if_neg e, List.append_nil]
      exact h.tree g
theorem LayK.nil {k : Int} : LayK [] k [] := ⟨rfl, (fun _ z => nomatch z), fun _ => rfl⟩
section
variable {X : Cx} {K : PySem.W.Frag} {a b : Expr} {ta tb : TE} {rest : List Expr} {pos : Pos}
end
theorem zip_erase {α β : Type} : ∀ (xs : List α) (ys : List β) (g : Nat), xs.length = ys.length → (xs.eraseIdx g).zip (ys.eraseIdx g) = (xs.zip ys).eraseIdx g
  | [], [], _, _ => rfl
  | x :: xs, y :: ys, 0, _ => rfl
  | x :: xs, y :: ys, g + 1, h => by
    show (x, y) :: (xs.eraseIdx g).zip (ys.eraseIdx g) = (x, y) :: (xs.zip ys).eraseIdx g
    rw [zip_erase xs ys g (Nat.succ.inj h)]
  | [], _ :: _, _, h => by cases h
  | _ :: _, [], _, h => by cases h
theorem LayK.erase {ts : List (Int × Int)} {k : Int} {ws : List V} (h : LayK ts k ws) {g : Nat} (hg : g < ts.length) : LayK (ts.eraseIdx g) k (ws.eraseIdx g) := by
  have hl := h.len
  refine ⟨by rw [List.length_eraseIdx, List.length_eraseIdx, if_pos hg, if_pos (by omega), hl], fun x hx => h.each x (List.mem_of_mem_eraseIdx hx), fun f => ringlessF_sub ?_ (h.tree f)⟩
  unfold layerOf
  rw [zip_erase ts ws g hl.symm]
  exact ((List.eraseIdx_sublist _ _).filter _).map _
theorem Ties.erase {H : Hp} : ∀ {rs : List V} {ts : List (Int × Int)} (g : Nat), Ties H rs ts → Ties H (rs.eraseIdx g) (ts.eraseIdx g)
  | _, _, _, .nil => .nil
  | _, _, 0, .cons _ t => t
  | _, _, g + 1, .cons h t => .cons h (Ties.erase g t)
end FF
namespace FF
open PySem PySem.Spec PyProof.Rows L2
variable [LT]
/-! ### exchanges in forests -/
abbrev tk (ts : List (Int × Int)) (a : Int) : Int × Int := ts.getD a.toNat (0, 0)
abbrev jn (ts : List (Int × Int)) (ms : List Int) (x y : Int) : Prop := foldR (fun x => x) (pick ts ms) x = foldR (fun x => x) (pick ts ms) y
theorem way_of {ts : List (Int × Int)} : ∀ (n : Nat) (ms : List Int), ms.length = n → ms.Nodup → ∀ x y, jn ts ms x y → ∃ ns, Way ts x ns y ∧ ns.Nodup ∧ ∀ m ∈ ns, m ∈ ms
  | 0, ms, hl, _, x, y, h => by
    have : ms = [] := List.length_eq_zero_iff.mp hl
    subst this
    have h : x = y := h
    subst h
    exact ⟨[], .nil x, List.nodup_nil, fun _ z => nomatch z⟩
  | n + 1, ms, hl, hnd, x, y, h => by
    have hne : ms ≠ [] := fun z => by rw [z] at hl; cases hl
    obtain ⟨is, m, rfl⟩ : ∃ is m, ms = is ++ [m] := ⟨ms.dropLast, ms.getLast hne, (List.dropLast_concat_getLast hne).symm⟩
    have hnd' := List.nodup_append.mp hnd
    have hmi : m ∉ is := fun z => hnd'.2.2 m z m List.mem_cons_self rfl
    have hil : is.length = n := by rw [List.length_append] at hl; exact Nat.succ.inj hl
    have ih := way_of (ts := ts) n is hil hnd'.1
    by_cases c : jn ts is x y
    · obtain ⟨ns, w, nd, hm⟩ := ih x y c
      exact ⟨ns, w, nd, fun k hk => List.mem_append_left _ (hm k hk)⟩
    have e : foldR (fun x => x) (pick ts (is ++ [m])) = rstep (foldR (fun x => x) (pick ts is)) (tk ts m) := by rw [pick_append]; exact foldR_snoc _ _ _
    unfold jn at h
    rw [e] at h
    -- a way over m
    have go : ∀ u v p q, jn ts is u p → jn ts is q v → ¬ jn ts is u v → Leads ts m p q → ∃ ns, Way ts u ns v ∧ ns.Nodup ∧ ∀ k ∈ ns, k ∈ is ++ [m] := fun u v p q h1 h2 h3 hL => by
      obtain ⟨n1, w1, d1, s1⟩ := ih u p h1
      obtain ⟨n2, w2, d2, s2⟩ := ih q v h2
      refine ⟨n1 ++ m :: n2, w1.append (.cons hL w2), ?_, fun k hk => ?_⟩
      · rw [List.nodup_append, List.nodup_cons]
        refine ⟨d1, ⟨fun z => hmi (s2 m z), d2⟩, fun a ha b hb => ?_⟩
        rcases List.mem_cons.mp hb with rfl | hb
        · exact fun z => hmi (z ▸ s1 a ha)
        · rintro rfl
          obtain ⟨l1, l2, u1, v1, el, x1, x2, x3⟩ := w1.cut ha
          obtain ⟨k1, k2, u2, v2, ek, z1, z2, z3⟩ := w2.cut hb
          have e1 : jn ts is u u1 := x1.joined fun k hk => s1 k (by rw [el]; exact List.mem_append_left _ hk)
          have e2 : jn ts is v2 v := z3.joined fun k hk => s2 k (by rw [ek]; exact List.mem_append_right _ (List.mem_cons_of_mem _ hk))
          have e3 : jn ts is u2 v2 := z2.foldR (s2 a hb)
          have e4 : jn ts is u1 v1 := x2.foldR (s1 a ha)
          have e5 : jn ts is u1 v2 := by
            rcases x2 with x2 | x2 <;> rcases z2 with z2 | z2 <;> rw [x2] at z2
            · cases z2; exact e4
            · have := Prod.mk.inj z2; rw [this.1]
            · have := Prod.mk.inj z2; rw [← this.2]
            · cases z2; exact e4
          exact h3 (e1.trans (e5.trans e2))
      · rcases List.mem_append.mp hk with hk | hk
        · exact List.mem_append_left _ (s1 k hk)
        · rcases List.mem_cons.mp hk with rfl | hk
          · exact List.mem_append_right _ List.mem_cons_self
          · exact List.mem_append_left _ (s2 k hk)
    have h : (if foldR (fun x => x) (pick ts is) x = foldR (fun x => x) (pick ts is) (tk ts m).2 then foldR (fun x => x) (pick ts is) (tk ts m).1 else foldR (fun x => x) (pick ts is) x) = (if foldR (fun x => x) (pick ts is) y = foldR (fun x => x) (pick ts is) (tk ts m).2 then foldR (fun x => x) (pick ts is) (tk ts m).1 else foldR (fun x => x) (pick ts is) y) := h
    by_cases c1 : jn ts is x (tk ts m).2
    · by_cases c2 : jn ts is y (tk ts m).2
      · exact absurd (c1.trans c2.symm) c
      · rw [if_pos c1, if_neg c2] at h
        exact go x y (tk ts m).2 (tk ts m).1 c1 h c (.inr rfl)
    · by_cases c2 : jn ts is y (tk ts m).2
      · rw [if_neg c1, if_pos c2] at h
        exact go x y (tk ts m).1 (tk ts m).2 h c2.symm c (.inl rfl)
      · rw [if_neg c1, if_neg c2] at h
        exact absurd h c
theorem ring_exists {ts : List (Int × Int)} {ms : List Int} (hn : ms.Nodup) {x y : Int} (h : jn ts ms x y) : ∃ ns, IsRing ts ms x y ns := by
  obtain ⟨ns, w, nd, hm⟩ := way_of _ ms rfl hn x y h
  exact ⟨ns, w, nd, hm⟩
/-- a forest: its ties by their numbers -/
structure Fo (ts : List (Int × Int)) (ms : List Int) : Prop where
  nd : ms.Nodup
  rl : ringlessF (fun x => x) (pick ts ms) = true
/-- x is on the ring that a closes in ms -/
def OnR (ts : List (Int × Int)) (ms : List Int) (a x : Int) : Prop := x ∈ ms ∧ ¬ jn ts (but x ms) (tk ts a).1 (tk ts a).2
theorem Fo.same {ts : List (Int × Int)} {ms ns : List Int} (h : Fo ts ms) (hn : ns.Nodup) (hm : ∀ x, x ∈ ns ↔ x ∈ ms) : Fo ts ns := by
  have p : ns.Perm ms := (List.perm_ext_iff_of_nodup hn h.nd).mpr hm
  refine ⟨hn, ?_⟩
  exact (ringlessF_perm (show (pick ts ns).Perm (pick ts ms) from p.map _) _).trans h.rl
theorem Fo.but {ts : List (Int × Int)} {ms : List Int} (h : Fo ts ms) (b : Int) : Fo ts (but b ms) :=
  ⟨h.nd.filter _, ringlessF_sub (List.filter_sublist.map _) h.rl⟩
theorem Fo.add {ts : List (Int × Int)} {ms : List Int} {a : Int} (h : Fo ts ms) (ha : a ∉ ms) (hj : ¬ jn ts ms (tk ts a).1 (tk ts a).2) : Fo ts (ms ++ [a]) := by
  refine ⟨?_, ?_⟩
  · rw [List.nodup_append]
    exact ⟨h.nd, by simp, fun x hx y hy => by rw [List.mem_singleton.mp hy]; exact fun z => ha (z ▸ hx)⟩
  · rw [pick_append]
    show ringlessF _ (pick ts ms ++ [tk ts a]) = true
    rw [ringlessF_more h.rl, decide_eq_false hj]
    rfl
theorem jn_sub {ts : List (Int × Int)} {ms ns : List Int} (h : ∀ x ∈ ms, x ∈ ns) {x y : Int} (hj : jn ts ms x y) : jn ts ns x y := foldR_sub (fun t ht => by
  obtain ⟨m, hm, rfl⟩ := List.mem_map.mp ht
  exact List.mem_map.mpr ⟨m, h m hm, rfl⟩) x y hj
theorem OnR.not_in {ts : List (Int × Int)} {ms : List Int} {a b : Int} (h : OnR ts ms a b) (ha : a ∉ ms) : a ∉ FF.but b ms := fun z => ha (mem_but.mp z).1
theorem Fo.swap {ts : List (Int × Int)} {ms : List Int} {a b : Int} (h : Fo ts ms) (ha : a ∉ ms) (hb : OnR ts ms a b) : Fo ts (FF.but b ms ++ [a]) := (h.but b).add (hb.not_in ha) hb.2
/-- the ring of another tie stays, if what goes is not on it -/
theorem ring_stays {ts : List (Int × Int)} {ms ns : List Int} {a : Int} (h : Fo ts ms) (h' : Fo ts ns) (hj : jn ts ms (tk ts a).1 (tk ts a).2) (hs : ∀ x, OnR ts ms a x → x ∈ ns) : jn ts ns (tk ts a).1 (tk ts a).2 ∧ ∀ x, OnR ts ns a x ↔ OnR ts ms a x := by
  obtain ⟨rs, hR⟩ := ring_exists h.nd hj
  have h1 := hR.mem_iff h.rl h.nd
  have hR' : IsRing ts ns (tk ts a).1 (tk ts a).2 rs := ⟨hR.way, hR.nd, fun m hm => hs m ((h1 m).mp hm)⟩
  have h2 := hR'.mem_iff h'.rl h'.nd
  exact ⟨hR'.way.joined hR'.mem, fun x => (h2 x).symm.trans (h1 x)⟩
theorem OnR.jn {ts : List (Int × Int)} {ms : List Int} {a b : Int} (_ : OnR ts ms a b) (hj : jn ts ms (tk ts a).1 (tk ts a).2) : FF.jn ts ms (tk ts a).1 (tk ts a).2 := hj
/-- several exchanges one after another: each next pair of the list comes earlier in the row -/
theorem Fo.swaps {ts : List (Int × Int)} : ∀ (ps : List (Int × Int)) {ms : List Int}, Fo ts ms → (ps.map Prod.fst).Nodup → (∀ p ∈ ps, p.1 ∉ ms ∧ FF.jn ts ms (tk ts p.1).1 (tk ts p.1).2 ∧ OnR ts ms p.1 p.2) → ps.Pairwise (fun p q => ¬ OnR ts ms q.1 p.2) → ∃ ns, Fo ts ns ∧ ∀ x, x ∈ ns ↔ (x ∈ ms ∧ x ∉ ps.map Prod.snd) ∨ x ∈ ps.map Prod.fst
  | [], ms, h, _, _, _ => ⟨ms, h, fun x => by simp⟩
  | (a, b) :: ps, ms, h, hnd, hp, hw => by
    obtain ⟨ha, hj, hb⟩ := hp (a, b) List.mem_cons_self
    obtain ⟨w1, w2⟩ := List.pairwise_cons.mp hw
    obtain ⟨n1, n2⟩ := List.nodup_cons.mp (show (a :: ps.map Prod.fst).Nodup from hnd)
    have h' := h.swap ha hb
    have keep : ∀ p ∈ ps, FF.jn ts (FF.but b ms ++ [a]) (tk ts p.1).1 (tk ts p.1).2 ∧ ∀ x, OnR ts (FF.but b ms ++ [a]) p.1 x ↔ OnR ts ms p.1 x := fun p hpm => by
      obtain ⟨_, hj', _⟩ := hp p (List.mem_cons_of_mem _ hpm)
      refine ring_stays h h' hj' fun x hx => List.mem_append_left _ (mem_but.mpr ⟨hx.1, fun z => w1 p hpm (z ▸ hx)⟩)
    obtain ⟨ns, hF, hm⟩ := Fo.swaps ps h' n2 (fun p hpm => by
      obtain ⟨p1, p2, p3⟩ := hp p (List.mem_cons_of_mem _ hpm)
      obtain ⟨k1, k2⟩ := keep p hpm
      refine ⟨fun z => ?_, k1, (k2 _).mpr p3⟩
      rcases List.mem_append.mp z with z | z
      · exact p1 (mem_but.mp z).1
      · exact n1 (List.mem_map.mpr ⟨p, hpm, List.mem_singleton.mp z⟩)) (w2.imp_of_mem fun {p q} hpm hqm hpq => fun z => hpq (((keep q hqm).2 _).mp z))
    refine ⟨ns, hF, fun x => ?_⟩
    rw [hm x, List.mem_append, mem_but, List.mem_singleton, List.map_cons, List.map_cons, List.mem_cons, List.mem_cons]
    constructor
    · rintro (⟨⟨x1, x2⟩ | x1, x3⟩ | x1)
      · exact .inl ⟨x1, fun z => z.elim x2 x3⟩
      · exact .inr (.inl x1)
      · exact .inr (.inr x1)
    · rintro (⟨x1, x2⟩ | x1 | x1)
      · exact .inl ⟨.inl ⟨x1, fun z => x2 (.inl z)⟩, fun z => x2 (.inr z)⟩
      · refine .inl ⟨.inr x1, fun z => ?_⟩
        obtain ⟨p, hpm, e⟩ := List.mem_map.mp z
        have := (hp p (List.mem_cons_of_mem _ hpm)).2.2.1
        rw [e, x1] at this
        exact ha this
      · exact .inr x1
end FF
namespace FF
open PySem PySem.Spec PyProof.Rows L2
variable [LT]
/-- a laying after pushes -/
def pushL (ws : List V) (es : List (Int × Int)) : List V := es.foldl (fun w e => w.set e.1.toNat (.int e.2)) ws
theorem pushL_length (es : List (Int × Int)) : ∀ ws : List V, (pushL ws es).length = ws.length := by
  induction es with
  | nil => exact fun _ => rfl
  | cons e es ih => exact fun ws => (ih _).trans List.length_set
theorem nums_iff {f : Int} {ws : List V} {x : Int} : x ∈ numsFrom f 0 ws ↔ 0 ≤ x ∧ ws[x.toNat]? = some (.int f) := by
  constructor
  · intro h
    obtain ⟨k, e, hk⟩ := nums_at h
    have := nums_bd f 0 ws x h
    rw [show x.toNat = k by omega]
    exact ⟨by omega, hk⟩
  · rintro ⟨h0, h⟩
    have := mem_nums (i := 0) h
    rw [Nat.zero_add, Int.toNat_of_nonneg h0] at this
    exact this
theorem fo_nums {ts : List (Int × Int)} {ws : List V} {f : Int} (hl : ws.length = ts.length) : Fo ts (numsFrom f 0 ws) ↔ ringlessF (fun x => x) (layerOf ts ws f) = true := by
  have e : pick ts (numsFrom f 0 ws) = layerOf ts ws f := pick_nums f [] ts ws hl.symm
  exact ⟨fun h => by rw [← e]; exact h.rl, fun h => ⟨nums_nd f 0 ws, by rw [e]; exact h⟩⟩
theorem jn_join {ts : List (Int × Int)} {ws : List V} {e : Int × Int} (hl : ws.length = ts.length) : joinB ts ws e = true ↔ jn ts (numsFrom e.2 0 ws) (tk ts e.1).1 (tk ts e.1).2 := by
  unfold joinB jn
  rw [decide_eq_true_eq, show pick ts (numsFrom e.2 0 ws) = layerOf ts ws e.2 from pick_nums e.2 [] ts ws hl.symm]
/-! ### what a row without short cuts makes of a laying -/
theorem pushL_in : ∀ (es : List (Int × Int)) {ws : List V} {e : Int × Int}, (es.map Prod.fst).Nodup → (∀ e ∈ es, 0 ≤ e.1 ∧ e.1 < (ws.length : Int)) → e ∈ es → (pushL ws es)[e.1.toNat]? = some (.int e.2)
  | d :: es, ws, e, hn, hb, he => by
    obtain ⟨n1, n2⟩ := List.nodup_cons.mp (show (d.1 :: es.map Prod.fst).Nodup from hn)
    show (pushL (ws.set d.1.toNat (.int d.2)) es)[e.1.toNat]? = _
    have hb' : ∀ e ∈ es, 0 ≤ e.1 ∧ e.1 < ((ws.set d.1.toNat (.int d.2)).length : Int) := fun e' h' => by rw [List.length_set]; exact hb e' (List.mem_cons_of_mem _ h')
    rcases List.mem_cons.mp he with rfl | he
    · rw [pushL_out es (fun z => n1 z) hb' (hb e List.mem_cons_self).1]
      have := hb e List.mem_cons_self
      exact List.getElem?_set_self (by omega)
    · exact pushL_in es n2 hb' he
where
  pushL_out : ∀ (es : List (Int × Int)) {ws : List V} {x : Int}, x ∉ es.map Prod.fst → (∀ e ∈ es, 0 ≤ e.1 ∧ e.1 < (ws.length : Int)) → 0 ≤ x → (pushL ws es)[x.toNat]? = ws[x.toNat]?
    | [], _, _, _, _, _ => rfl
    | d :: es, ws, x, hx, hb, x0 => by
      have hx : x ∉ d.1 :: es.map Prod.fst := hx
      have h1 : x ≠ d.1 := fun z => hx (by rw [z]; exact List.mem_cons_self)
      have h2 : x ∉ es.map Prod.fst := fun z => hx (List.mem_cons_of_mem _ z)
      show (pushL (ws.set d.1.toNat (.int d.2)) es)[x.toNat]? = _
      rw [pushL_out es h2 (fun e' h' => by rw [List.length_set]; exact hb e' (List.mem_cons_of_mem _ h')) x0]
      have := (hb d List.mem_cons_self).1
      exact List.getElem?_set_ne (by omega)
def pairsF (f : Int) : List (Int × Int) → List (Int × Int)
  | e :: e' :: r => (if e.2 = f then [(e.1, e'.1)] else []) ++ pairsF f (e' :: r)
  | _ => []
/-- no short cut -/
def NoCut (ts : List (Int × Int)) (ws : List V) : List (Int × Int) → Prop
  | [] => True
  | e :: r => (∀ q ∈ r.tail, ¬ OnRing ts ws e q.1) ∧ NoCut ts ws r
theorem pairs_snd {f : Int} : ∀ {e : Int × Int} {r : List (Int × Int)} {p : Int × Int}, p ∈ pairsF f (e :: r) → ∃ q ∈ r, q.1 = p.2
  | e, e' :: r, p, h => by
    rcases List.mem_append.mp (show p ∈ (if e.2 = f then [(e.1, e'.1)] else []) ++ pairsF f (e' :: r) from h) with h | h
    · split at h
      · rw [List.mem_singleton.mp h]
        exact ⟨e', List.mem_cons_self, rfl⟩
      · cases h
    · obtain ⟨q, hq, e⟩ := pairs_snd h
      exact ⟨q, List.mem_cons_of_mem _ hq, e⟩
theorem pairs_fst {f : Int} : ∀ {es : List (Int × Int)}, ((pairsF f es).map Prod.fst).Sublist (es.map Prod.fst)
  | [] => .refl _
  | [e] => List.nil_sublist _
  | e :: e' :: r => by
    have ih := pairs_fst (f := f) (es := e' :: r)
    show (((if e.2 = f then [(e.1, e'.1)] else []) ++ pairsF f (e' :: r)).map Prod.fst).Sublist (e.1 :: (e' :: r).map Prod.fst)
    rw [List.map_append]
    split
    · exact ih.cons₂ _
    · exact ih.cons _
theorem pairs_ok {ts : List (Int × Int)} {ws : List V} {f : Int} (hl : ws.length = ts.length) : ∀ {es : List (Int × Int)}, pushB ts ws es = true → ∀ p ∈ pairsF f es, (p.1, f) ∈ es ∧ jn ts (numsFrom f 0 ws) (tk ts p.1).1 (tk ts p.1).2 ∧ OnR ts (numsFrom f 0 ws) p.1 p.2
  | e :: e' :: r, h, p, hp => by
    have h : ((joinB ts ws e && @decide (OnRing ts ws e e'.1) (Classical.propDecidable _)) && pushB ts ws (e' :: r)) = true := h
    rw [Bool.and_eq_true, Bool.and_eq_true] at h
    obtain ⟨⟨h1, h2⟩, h3⟩ := h
    rcases List.mem_append.mp (show p ∈ (if e.2 = f then [(e.1, e'.1)] else []) ++ pairsF f (e' :: r) from hp) with hp | hp
    · split at hp
      · rename_i ef
        rw [List.mem_singleton.mp hp]
        subst ef
        exact ⟨List.mem_cons_self, (jn_join hl).mp h1, @of_decide_eq_true _ (Classical.propDecidable _) h2⟩
      · cases hp
    · obtain ⟨a, b, c⟩ := pairs_ok hl h3 p hp
      exact ⟨List.mem_cons_of_mem _ a, b, c⟩
theorem pairs_apart {ts : List (Int × Int)} {ws : List V} {f : Int} : ∀ {es : List (Int × Int)}, NoCut ts ws es → (pairsF f es).Pairwise fun p q => ¬ OnR ts (numsFrom f 0 ws) p.1 q.2
  | [], _ => .nil
  | [e], _ => .nil
  | e :: e' :: r, h => by
    have ih := pairs_apart (f := f) (es := e' :: r) h.2
    show ((if e.2 = f then [(e.1, e'.1)] else []) ++ pairsF f (e' :: r)).Pairwise _
    rw [List.pairwise_append]
    refine ⟨by split <;> simp, ih, fun p hp q hq => ?_⟩
    split at hp
    · rename_i ef
      rw [List.mem_singleton.mp hp]
      obtain ⟨q', hq', e2⟩ := pairs_snd hq
      subst ef
      have := h.1 q' hq'
      rw [e2] at this
      exact this
    · cases hp
theorem pairs_has {f : Int} : ∀ {es : List (Int × Int)} {e : Int × Int}, e ∈ es → e.2 = f → (∃ b, (e.1, b) ∈ pairsF f es) ∨ es.getLast? = some e
  | [d], e, he, _ => .inr (by rw [List.mem_singleton.mp he]; rfl)
  | d :: d' :: r, e, he, ef => by
    rcases List.mem_cons.mp he with rfl | he
    · refine .inl ⟨d'.1, ?_⟩
      show (e.1, d'.1) ∈ (if e.2 = f then [(e.1, d'.1)] else []) ++ pairsF f (d' :: r)
      rw [if_pos ef]
      exact List.mem_cons_self
    · rcases pairs_has he ef with ⟨b, hb⟩ | h
      · exact .inl ⟨b, List.mem_append_right _ hb⟩
      · exact .inr (by rw [List.getLast?_cons_cons]; exact h)
/-- what is pushed away from a forest -/
theorem pairs_gone {ts : List (Int × Int)} {ws : List V} {f : Int} : ∀ {e : Int × Int} {r : List (Int × Int)}, pushB ts ws (e :: r) = true → ∀ q ∈ r, q.1 ∈ numsFrom f 0 ws → q.1 ∈ (pairsF f (e :: r)).map Prod.snd
  | e, e' :: r, h, q, hq, hm => by
    have h : ((joinB ts ws e && @decide (OnRing ts ws e e'.1) (Classical.propDecidable _)) && pushB ts ws (e' :: r)) = true := h
    rw [Bool.and_eq_true, Bool.and_eq_true] at h
    obtain ⟨⟨h1, h2⟩, h3⟩ := h
    show q.1 ∈ (((if e.2 = f then [(e.1, e'.1)] else []) ++ pairsF f (e' :: r)).map Prod.snd)
    rw [List.map_append, List.mem_append]
    rcases List.mem_cons.mp hq with rfl | hq
    · have h2 : OnRing ts ws e q.1 := @of_decide_eq_true _ (Classical.propDecidable _) h2
      have a := (nums_iff.mp h2.1).2
      have b := (nums_iff.mp hm).2
      rw [a] at b
      have ef : e.2 = f := V.int.inj (Option.some.inj b)
      rw [if_pos ef]
      exact .inl List.mem_cons_self
    · exact .inr (pairs_gone h3 q hq hm)
theorem push_last {ts : List (Int × Int)} {ws : List V} : ∀ {es : List (Int × Int)} {e : Int × Int}, pushB ts ws es = true → es.getLast? = some e → joinB ts ws e = false
  | [d], e, h, hl => by
    have h : (!joinB ts ws d) = true := h
    have : d = e := Option.some.inj hl
    subst this
    cases e : joinB ts ws d with
    | false => rfl
    | true => rw [e] at h; cases h
  | d :: d' :: r, e, h, hl => by
    have h : ((joinB ts ws d && @decide (OnRing ts ws d d'.1) (Classical.propDecidable _)) && pushB ts ws (d' :: r)) = true := h
    rw [Bool.and_eq_true] at h
    rw [List.getLast?_cons_cons] at hl
    exact push_last h.2 hl
theorem pairs_not_last {f : Int} : ∀ {es : List (Int × Int)} {p e : Int × Int}, (es.map Prod.fst).Nodup → p ∈ pairsF f es → es.getLast? = some e → p.1 ≠ e.1
  | d :: d' :: r, p, e, hn, hp, hl => by
    obtain ⟨n1, n2⟩ := List.nodup_cons.mp (show (d.1 :: (d' :: r).map Prod.fst).Nodup from hn)
    rw [List.getLast?_cons_cons] at hl
    rcases List.mem_append.mp (show p ∈ (if d.2 = f then [(d.1, d'.1)] else []) ++ pairsF f (d' :: r) from hp) with hp | hp
    · split at hp
      · rw [List.mem_singleton.mp hp]
        exact fun z => n1 (List.mem_map.mpr ⟨e, List.mem_of_getLast? hl, z.symm⟩)
      · cases hp
    · exact pairs_not_last n2 hp hl
/-- a row of pushes without short cuts leaves no ring -/
theorem row_lays {ts : List (Int × Int)} {ws : List V} {e0 : Int × Int} {r : List (Int × Int)} (hl : ws.length = ts.length) (hf : ∀ f, ringlessF (fun x => x) (layerOf ts ws f) = true) (hn : ((e0 :: r).map Prod.fst).Nodup) (hb : ∀ e ∈ e0 :: r, 0 ≤ e.1 ∧ e.1 < (ts.length : Int)) (hlay : ∀ e ∈ e0 :: r, layB ws e = false) (hp : pushB ts ws (e0 :: r) = true) (h0 : ws[e0.1.toNat]? = some .non) (hc : NoCut ts ws (e0 :: r)) (f : Int) : ringlessF (fun x => x) (layerOf ts (pushL ws (e0 :: r)) f) = true := by
  have hb' : ∀ e ∈ e0 :: r, 0 ≤ e.1 ∧ e.1 < (ws.length : Int) := fun e he => by rw [hl]; exact hb e he
  rw [← fo_nums ((pushL_length _ _).trans hl)]
  have hF := (fo_nums hl).mpr (hf f)
  have hout : ∀ e ∈ e0 :: r, e.2 = f → e.1 ∉ numsFrom f 0 ws := fun e he ef z => by
    have := hlay e he
    unfold layB at this
    rw [ef, (nums_iff.mp z).2, decide_eq_true rfl] at this
    cases this
  have hps := pairs_ok (f := f) hl hp
  have hap := pairs_apart (f := f) hc
  have hnd := hn.sublist (pairs_fst (f := f) (es := e0 :: r))
  -- a free tie at the end
  obtain ⟨ms, hM, hms, hkeep⟩ : ∃ ms, Fo ts ms ∧ (∀ x, x ∈ ms ↔ x ∈ numsFrom f 0 ws ∨ ∃ e, (e0 :: r).getLast? = some e ∧ e.2 = f ∧ e.1 = x) ∧ ∀ p ∈ pairsF f (e0 :: r), p.1 ∉ ms ∧ jn ts ms (tk ts p.1).1 (tk ts p.1).2 ∧ ∀ x, OnR ts ms p.1 x ↔ OnR ts (numsFrom f 0 ws) p.1 x := by
    by_cases c : ∃ e, (e0 :: r).getLast? = some e ∧ e.2 = f
    · obtain ⟨e, he, ef⟩ := c
      have hem := List.mem_of_getLast? he
      have hj : ¬ jn ts (numsFrom f 0 ws) (tk ts e.1).1 (tk ts e.1).2 := fun z => by
        have := push_last hp he
        subst ef
        rw [(jn_join hl).mpr z] at this
        cases this
      have hM := hF.add (hout e hem ef) hj
      refine ⟨_, hM, fun x => ?_, fun p hpm => ?_⟩
      · rw [List.mem_append, List.mem_singleton]
        constructor
        · rintro (h | h)
          · exact .inl h
          · exact .inr ⟨e, he, ef, h.symm⟩
        · rintro (h | ⟨e', h1, _, h3⟩)
          · exact .inl h
          · rw [he] at h1
            cases h1
            exact .inr h3.symm
      · obtain ⟨p1, p2, p3⟩ := hps p hpm
        refine ⟨fun z => ?_, ring_stays hF hM p2 fun x hx => List.mem_append_left _ hx.1⟩
        rcases List.mem_append.mp z with z | z
        · exact hout (p.1, f) p1 rfl z
        · exact pairs_not_last hn hpm he (List.mem_singleton.mp z)
    · refine ⟨_, hF, fun x => ⟨.inl, fun h => h.elim id fun ⟨e, h1, h2, _⟩ => absurd ⟨e, h1, h2⟩ c⟩, fun p hpm => ?_⟩
      obtain ⟨p1, p2, p3⟩ := hps p hpm
      exact ⟨hout (p.1, f) p1 rfl, p2, fun _ => Iff.rfl⟩
  obtain ⟨ns, hN, hns⟩ := Fo.swaps (pairsF f (e0 :: r)).reverse hM (by rw [List.map_reverse]; exact (List.reverse_perm _).nodup_iff.mpr hnd) (fun p hpm => by
    have hpm := List.mem_reverse.mp hpm
    obtain ⟨a, b, c⟩ := hkeep p hpm
    exact ⟨a, b, (c _).mpr (hps p hpm).2.2⟩) (by
    rw [List.pairwise_reverse]
    exact hap.imp_of_mem fun {p q} hpm hqm hpq => fun z => hpq (((hkeep p hpm).2.2 _).mp z))
  refine hN.same (nums_nd _ _ _) fun x => ?_
  rw [hns x, hms x, List.map_reverse, List.map_reverse, List.mem_reverse, List.mem_reverse]
  have hgone : ∀ y, y ∈ (pairsF f (e0 :: r)).map Prod.snd → y ∈ numsFrom f 0 ws ∧ y ∈ (e0 :: r).map Prod.fst := fun y hy => by
    obtain ⟨p, hpm, rfl⟩ := List.mem_map.mp hy
    obtain ⟨q, hq, e⟩ := pairs_snd hpm
    exact ⟨(hps p hpm).2.2.1, List.mem_map.mpr ⟨q, List.mem_cons_of_mem _ hq, e⟩⟩
  constructor
  · intro h
    obtain ⟨x0, hx⟩ := nums_iff.mp h
    by_cases c : x ∈ (e0 :: r).map Prod.fst
    · obtain ⟨e, he, rfl⟩ := List.mem_map.mp c
      rw [pushL_in _ hn hb' he] at hx
      have ef : e.2 = f := V.int.inj (Option.some.inj hx)
      rcases pairs_has he ef with ⟨b, hbm⟩ | hla
      · exact .inr (List.mem_map.mpr ⟨_, hbm, rfl⟩)
      · exact .inl ⟨.inr ⟨e, hla, ef, rfl⟩, fun z => hout e he ef (hgone _ z).1⟩
    · rw [pushL_in.pushL_out _ c hb' x0] at hx
      exact .inl ⟨.inl (nums_iff.mpr ⟨x0, hx⟩), fun z => c (hgone _ z).2⟩
  · rintro (⟨h | ⟨e, h1, h2, rfl⟩, hx⟩ | h)
    · obtain ⟨x0, hw⟩ := nums_iff.mp h
      refine nums_iff.mpr ⟨x0, ?_⟩
      rw [pushL_in.pushL_out _ (fun z => ?_) hb' x0]
      · exact hw
      · obtain ⟨q, hq, rfl⟩ := List.mem_map.mp z
        rcases List.mem_cons.mp hq with rfl | hq
        · rw [h0] at hw
          cases hw
        · exact hx (pairs_gone hp q hq h)
    · have hem := List.mem_of_getLast? h1
      exact nums_iff.mpr ⟨(hb e hem).1, by rw [pushL_in _ hn hb' hem, h2]⟩
    · obtain ⟨p, hpm, rfl⟩ := List.mem_map.mp h
      have := (hps p hpm).1
      exact nums_iff.mpr ⟨(hb _ this).1, pushL_in _ hn hb' this⟩
end FF
namespace FF
open PySem PySem.Spec PyProof.Rows L2
variable [LT]
/-! ### what is reached and closed is full -/
theorem nub_one {ls : List Int} {g : Int → Int} (hne : ls ≠ []) (h : ∀ x ∈ ls, ∀ y ∈ ls, g x = g y) : (nub (ls.map g)).length = 1 := by
  cases ls with
  | nil => exact absurd rfl hne
  | cons x r =>
    have : (nub ((x :: r).map g)).length = [g x].length := nd_eq (nub_nd _) (by simp) fun k => by
      rw [mem_nub, List.mem_singleton]
      constructor
      · intro hk
        obtain ⟨y, hy, rfl⟩ := List.mem_map.mp hk
        exact h y hy x List.mem_cons_self
      · rintro rfl
        exact List.mem_map.mpr ⟨x, List.mem_cons_self, rfl⟩
    exact this
theorem tree_count {ts : List (Int × Int)} {ms : List Int} {ls : List Int} (h : Fo ts ms) (hin : ∀ m ∈ ms, (tk ts m).1 ∈ ls ∧ (tk ts m).2 ∈ ls) (hn : ls.Nodup) (hne : ls ≠ []) (hj : ∀ x ∈ ls, ∀ y ∈ ls, jn ts ms x y) : ms.length + 1 = ls.length := by
  have := lot_count (ls := ls) h.rl fun t ht => by
    obtain ⟨m, hm, rfl⟩ := List.mem_map.mp ht
    exact hin m hm
  rw [nub_one hne hj, List.map_id', nub_of_nd hn, pick_length] at this
  exact this
/-- ties that are reached: closed under pushes, and hanging together -/
structure Closed (ts : List (Int × Int)) (ws : List V) (k : Int) (R : List Int) : Prop where
  nd : R.Nodup
  rng : ∀ t ∈ R, 0 ≤ t ∧ t < (ts.length : Int)
  ring : ∀ t ∈ R, ∀ f, 0 ≤ f → f < k → ws[t.toNat]? ≠ some (.int f) → jn ts (numsFrom f 0 ws) (tk ts t).1 (tk ts t).2 ∧ ∀ x, OnR ts (numsFrom f 0 ws) t x → x ∈ R
  one : ∀ t ∈ R, ∀ s ∈ R, jn ts R (tk ts t).1 (tk ts s).1
/-- the ends of some ties -/
structure EndsOf (ts : List (Int × Int)) (R : List Int) (ls : List Int) : Prop where
  nd : ls.Nodup
  mem : ∀ x, x ∈ ls ↔ ∃ t ∈ R, x = (tk ts t).1 ∨ x = (tk ts t).2
theorem Closed.joins {ts : List (Int × Int)} {ws : List V} {k : Int} {R ls : List Int} (h : Closed ts ws k R) (hE : EndsOf ts R ls) {x y : Int} (hx : x ∈ ls) (hy : y ∈ ls) : jn ts R x y := by
  have go : ∀ z ∈ ls, ∃ t ∈ R, jn ts R z (tk ts t).1 := fun z hz => by
    obtain ⟨t, ht, e⟩ := (hE.mem z).mp hz
    refine ⟨t, ht, ?_⟩
    rcases e with rfl | rfl
    · rfl
    · exact (Leads.foldR (ts := ts) ht (.inl rfl)).symm
  obtain ⟨t, ht, e1⟩ := go x hx
  obtain ⟨s, hs, e2⟩ := go y hy
  exact e1.trans ((h.one t ht s hs).trans e2.symm)
/-- in each forest the reached ties are a tree on their ends -/
theorem Closed.tree {ts : List (Int × Int)} {ws : List V} {k : Int} {R ls : List Int} (hl : ws.length = ts.length) (h : Closed ts ws k R) (hE : EndsOf ts R ls) (hne : R ≠ []) (hf : ∀ f, ringlessF (fun x => x) (layerOf ts ws f) = true) {f : Int} (f0 : 0 ≤ f) (f1 : f < k) : inside ls (layerOf ts ws f) + 1 = ls.length := by
  have hF := (fo_nums hl).mpr (hf f)
  have hFo : Fo ts ((numsFrom f 0 ws).filter fun m => decide (m ∈ R)) := ⟨hF.nd.filter _, ringlessF_sub (List.filter_sublist.map _) hF.rl⟩
  have hlne : ls ≠ [] := by
    cases R with
    | nil => exact absurd rfl hne
    | cons t r => exact fun z => by have := (hE.mem (tk ts t).1).mpr ⟨t, List.mem_cons_self, .inl rfl⟩; rw [z] at this; cases this
  have hj : ∀ x ∈ ls, ∀ y ∈ ls, jn ts ((numsFrom f 0 ws).filter fun m => decide (m ∈ R)) x y := fun x hx y hy => by
    refine foldR_fine (g := foldR (fun x => x) (pick ts ((numsFrom f 0 ws).filter fun m => decide (m ∈ R)))) (L := pick ts R) (r := fun x => x) (fun a b e => by rw [show a = b from e]) (fun t ht => ?_) x y (h.joins hE hx hy)
    obtain ⟨m, hm, rfl⟩ := List.mem_map.mp ht
    by_cases c : ws[m.toNat]? = some (.int f)
    · have : m ∈ (numsFrom f 0 ws).filter fun m => decide (m ∈ R) := List.mem_filter.mpr ⟨nums_iff.mpr ⟨(h.rng m hm).1, c⟩, decide_eq_true hm⟩
      exact Leads.foldR (ts := ts) this (.inl rfl)
    · obtain ⟨j1, j2⟩ := h.ring m hm f f0 f1 c
      obtain ⟨ns, hR⟩ := ring_exists hF.nd j1
      have h1 := hR.mem_iff hF.rl hF.nd
      exact hR.way.joined fun x hx => List.mem_filter.mpr ⟨hR.mem x hx, decide_eq_true (j2 x ((h1 x).mp hx))⟩
  have h1 := tree_count hFo (fun m hm => by
    have := of_decide_eq_true (List.mem_filter.mp hm).2
    exact ⟨(hE.mem _).mpr ⟨m, this, .inl rfl⟩, (hE.mem _).mpr ⟨m, this, .inr rfl⟩⟩) hE.nd hlne hj
  have h2 := inside_forest (hf f) hE.nd hlne
  have h3 : ((numsFrom f 0 ws).filter fun m => decide (m ∈ R)).length ≤ inside ls (layerOf ts ws f) := by
    have e : layerOf ts ws f = pick ts (numsFrom f 0 ws) := (pick_nums f [] ts ws hl.symm).symm
    unfold inside
    rw [e]
    unfold pick
    rw [List.filter_map, List.length_map]
    refine (List.Sublist.length_le ?_)
    rw [show ((numsFrom f 0 ws).filter fun m => decide (m ∈ R)) = ((numsFrom f 0 ws).filter ((fun t => decide (t.1 ∈ ls) && decide (t.2 ∈ ls)) ∘ fun m => ts.getD m.toNat (0, 0))).filter fun m => decide (m ∈ R) from ?_]
    · exact List.filter_sublist
    · rw [List.filter_filter]
      apply List.filter_congr
      intro m _
      by_cases c : m ∈ R
      · rw [decide_eq_true c]
        show true = (true && (decide ((tk ts m).1 ∈ ls) && decide ((tk ts m).2 ∈ ls)))
        rw [decide_eq_true ((hE.mem _).mpr ⟨m, c, .inl rfl⟩), decide_eq_true ((hE.mem _).mpr ⟨m, c, .inr rfl⟩)]
        rfl
      · rw [decide_eq_false c]
        rfl
  omega
end FF
namespace FF
open PySem PySem.Spec PyProof.Rows L2
variable [LT]
theorem laid_inside (ls : List Int) : ∀ {ts : List (Int × Int)} {ws : List V}, inside ls (laidT ts ws) ≤ inside ls ts
  | [], ws => by
    unfold laidT
    rw [List.zip_nil_left]
    exact Nat.le_refl _
  | t :: ts, [] => by
    unfold laidT
    rw [List.zip_nil_right]
    exact Nat.zero_le _
  | t :: ts, x :: ws => by
    have ih := laid_inside ls (ts := ts) (ws := ws)
    rw [laidT_cons, inside_app, show t :: ts = [t] ++ ts from rfl, inside_app]
    split
    · have : inside ls [] = 0 := rfl
      omega
    · omega
theorem left_inside {ls : List Int} : ∀ {ts : List (Int × Int)} {ws : List V} {i : Nat} {t : Int × Int}, ts[i]? = some t → ws[i]? = some .non → t.1 ∈ ls → t.2 ∈ ls → inside ls (laidT ts ws) + 1 ≤ inside ls ts
  | u :: ts, x :: ws, 0, t, h1, h2, a, b => by
    cases h1
    cases h2
    rw [laidT_cons, if_pos rfl, List.nil_append, inside_cons, decide_eq_true a, decide_eq_true b]
    have := laid_inside ls (ts := ts) (ws := ws)
    show _ ≤ 1 + _
    omega
  | u :: ts, x :: ws, i + 1, t, h1, h2, a, b => by
    have ih := left_inside (ts := ts) (ws := ws) (i := i) h1 h2 a b
    rw [laidT_cons, inside_app, show u :: ts = [u] ++ ts from rfl, inside_app]
    split
    · have : inside ls [] = 0 := rfl
      omega
    · omega
  | [], _, _, _, h1, _, _, _ => by simp at h1
  | _ :: _, [], _, _, _, h2, _, _ => by simp at h2
/-- the ends of what is reached and closed are full -/
theorem Closed.full {ts : List (Int × Int)} {ws : List V} {k : Int} {R ls : List Int} (hL : LayK ts k ws) (hk : 0 ≤ k) (h : Closed ts ws k R) (hE : EndsOf ts R ls) {e : Int} (he : e ∈ R) (hn : ws[e.toNat]? = some .non) : (inside ls ts : Int) > k * ((ls.length : Int) - 1) := by
  have hne : R ≠ [] := fun z => by rw [z] at he; cases he
  have ht : (inside ls (laidT ts ws) : Int) = k * ((ls.length : Int) - 1) := by
    refine (tight_iff hL hk hE.nd ?_).mpr fun f f0 f1 => ?_
    · intro z
      have := (hE.mem (tk ts e).1).mpr ⟨e, he, .inl rfl⟩
      rw [z] at this
      cases this
    · have := h.tree hL.len hE hne hL.tree f0 f1
      omega
  have := left_inside (ls := ls) (getD_at (h.rng e he).1 (h.rng e he).2) hn ((hE.mem _).mpr ⟨e, he, .inl rfl⟩) ((hE.mem _).mpr ⟨e, he, .inr rfl⟩)
  omega
/-- a full lot lets no whole laying -/
theorem whole_inside {ts : List (Int × Int)} {ws : List V} (hl : ws.length = ts.length) (hw : ∀ x ∈ ws, x ≠ V.non) : laidT ts ws = ts := by
  induction ts generalizing ws with
  | nil =>
    unfold laidT
    rw [List.zip_nil_left]
    rfl
  | cons t ts ih =>
    cases ws with
    | nil => cases hl
    | cons x ws =>
      rw [laidT_cons, if_neg (hw x List.mem_cons_self), ih (Nat.succ.inj hl) fun y hy => hw y (List.mem_cons_of_mem _ hy)]
      rfl
theorem not_full {ts : List (Int × Int)} {k : Int} {ws : List V} (hL : LayK ts k ws) (hk : 0 ≤ k) (hw : ∀ x ∈ ws, x ≠ V.non) {ls : List Int} (hn : ls.Nodup) (hne : ls ≠ []) : (inside ls ts : Int) ≤ k * ((ls.length : Int) - 1) := by
  have e := inside_laid ls hL.len hL.each
  rw [whole_inside hL.len hw] at e
  rw [e]
  have hm := sum_most (s := (ls.length : Int) - 1) (g := fun f => (inside ls (layerOf ts ws f) : Int)) (l := upTo k) fun f _ => by
    have := inside_forest (hL.tree f) hn hne
    show (inside ls (layerOf ts ws f) : Int) ≤ _
    omega
  have hl : ((upTo k).length : Int) = k := by rw [upTo_length]; omega
  rw [hl] at hm
  exact hm.1
/-- a laying after a row of pushes without short cuts -/
theorem LayK.push {ts : List (Int × Int)} {k : Int} {ws : List V} {e0 : Int × Int} {r : List (Int × Int)} (hL : LayK ts k ws) (hn : ((e0 :: r).map Prod.fst).Nodup) (hb : ∀ e ∈ e0 :: r, (0 ≤ e.1 ∧ e.1 < (ts.length : Int)) ∧ 0 ≤ e.2 ∧ e.2 < k) (hlay : ∀ e ∈ e0 :: r, layB ws e = false) (hp : pushB ts ws (e0 :: r) = true) (h0 : ws[e0.1.toNat]? = some .non) (hc : NoCut ts ws (e0 :: r)) : LayK ts k (pushL ws (e0 :: r)) := by
  refine ⟨(pushL_length _ _).trans hL.len, ?_, row_lays hL.len hL.tree hn (fun e he => (hb e he).1) hlay hp h0 hc⟩
  have go : ∀ (es : List (Int × Int)) {ws : List V}, (∀ e ∈ es, 0 ≤ e.2 ∧ e.2 < k) → (∀ x ∈ ws, x = V.non ∨ ∃ f, x = V.int f ∧ 0 ≤ f ∧ f < k) → ∀ x ∈ pushL ws es, x = V.non ∨ ∃ f, x = V.int f ∧ 0 ≤ f ∧ f < k := fun es => by
    induction es with
    | nil => exact fun _ h => h
    | cons e es ih =>
      intro ws he h
      refine ih (ws := ws.set e.1.toNat (.int e.2)) (fun e' h' => he e' (List.mem_cons_of_mem _ h')) fun x hx => ?_
      rcases List.mem_or_eq_of_mem_set hx with hx | rfl
      · exact h x hx
      · exact .inr ⟨_, rfl, he e List.mem_cons_self⟩
  exact go _ (fun e he => (hb e he).2) hL.each
end FF
namespace FF
open PySem PySem.Spec PyProof.Rows L2
variable [LT]
/-! ### where no lot is full a whole laying is there -/
structure PRow (ts : List (Int × Int)) (ws : List V) (k : Int) (es : List (Int × Int)) : Prop where
  ne : es ≠ []
  bd : ∀ e ∈ es, (0 ≤ e.1 ∧ e.1 < (ts.length : Int)) ∧ 0 ≤ e.2 ∧ e.2 < k
  lay : ∀ e ∈ es, layB ws e = false
  push : pushB ts ws es = true
section
variable {ts : List (Int × Int)} {ws : List V} {k : Int}
theorem pushB_parts {e e' : Int × Int} {r : List (Int × Int)} : pushB ts ws (e :: e' :: r) = true ↔ joinB ts ws e = true ∧ OnRing ts ws e e'.1 ∧ pushB ts ws (e' :: r) = true := by
  show ((joinB ts ws e && @decide (OnRing ts ws e e'.1) (Classical.propDecidable _)) && pushB ts ws (e' :: r)) = true ↔ _
  rw [Bool.and_eq_true, Bool.and_eq_true, @decide_eq_true_eq _ (Classical.propDecidable _), and_assoc]
theorem PRow.tail {e e' : Int × Int} {r : List (Int × Int)} (h : PRow ts ws k (e :: e' :: r)) : PRow ts ws k (e' :: r) :=
  ⟨List.cons_ne_nil _ _, fun q hq => h.bd q (List.mem_cons_of_mem _ hq), fun q hq => h.lay q (List.mem_cons_of_mem _ hq), (pushB_parts.mp h.push).2.2⟩
theorem PRow.cons {e e' : Int × Int} {r : List (Int × Int)} (b : (0 ≤ e.1 ∧ e.1 < (ts.length : Int)) ∧ 0 ≤ e.2 ∧ e.2 < k) (l : layB ws e = false) (j : joinB ts ws e = true) (o : OnRing ts ws e e'.1) (h : PRow ts ws k (e' :: r)) : PRow ts ws k (e :: e' :: r) :=
  ⟨List.cons_ne_nil _ _, fun q hq => (List.mem_cons.mp hq).elim (fun z => z ▸ b) (h.bd q), fun q hq => (List.mem_cons.mp hq).elim (fun z => z ▸ l) (h.lay q), pushB_parts.mpr ⟨j, o, h.push⟩⟩
theorem PRow.drop : ∀ {es : List (Int × Int)} {l1 l2 : List (Int × Int)} {q : Int × Int}, PRow ts ws k es → es = l1 ++ q :: l2 → PRow ts ws k (q :: l2)
  | es, [], l2, q, h, e => by subst e; exact h
  | es, [d], l2, q, h, e => by subst e; exact PRow.tail h
  | es, d :: d' :: l1, l2, q, h, e => by subst e; exact PRow.drop (es := d' :: l1 ++ q :: l2) (PRow.tail h) rfl
/-- no row from its first tie is shorter -/
def Least (ts : List (Int × Int)) (ws : List V) (k : Int) : List (Int × Int) → Prop
  | [] => True
  | e :: r => ∀ e' r', PRow ts ws k (e' :: r') → e'.1 = e.1 → r.length ≤ r'.length
theorem Least.tail {e e' : Int × Int} {r : List (Int × Int)} (h : PRow ts ws k (e :: e' :: r)) (m : Least ts ws k (e :: e' :: r)) : Least ts ws k (e' :: r) := fun d r' hd ed => by
  have p := pushB_parts.mp h.push
  have := m e (d :: r') (PRow.cons (h.bd e List.mem_cons_self) (h.lay e List.mem_cons_self) p.1 (by rw [ed]; exact p.2.1) hd) rfl
  rw [List.length_cons, List.length_cons] at this
  omega
theorem Least.nocut : ∀ {es : List (Int × Int)}, PRow ts ws k es → Least ts ws k es → NoCut ts ws es ∧ (es.map Prod.fst).Nodup
  | [], h, _ => absurd rfl h.ne
  | [e], _, _ => ⟨⟨(fun _ z => nomatch z), trivial⟩, by simp⟩
  | e :: e' :: r, h, m => by
    obtain ⟨i1, i2⟩ := Least.nocut (PRow.tail h) (m.tail h)
    have p := pushB_parts.mp h.push
    refine ⟨⟨fun q hq z => ?_, i1⟩, ?_⟩
    · obtain ⟨l1, l2, el⟩ := List.append_of_mem (show q ∈ r from hq)
      have hd := PRow.drop (l1 := e :: e' :: l1) (l2 := l2) (q := q) h (by rw [el]; rfl)
      have := m e (q :: l2) (PRow.cons (h.bd e List.mem_cons_self) (h.lay e List.mem_cons_self) p.1 z hd) rfl
      rw [el, List.length_cons, List.length_append, List.length_cons] at this
      omega
    · show (e.1 :: (e' :: r).map Prod.fst).Nodup
      rw [List.nodup_cons]
      refine ⟨fun z => ?_, i2⟩
      obtain ⟨q, hq, eq⟩ := List.mem_map.mp z
      obtain ⟨l1, l2, el⟩ := List.append_of_mem hq
      have hd := PRow.drop (l1 := e :: l1) (l2 := l2) (q := q) h (by rw [el]; rfl)
      have := m q l2 hd eq
      rw [el, List.length_append, List.length_cons] at this
      omega
/-- if there is a row there is a shortest one -/
theorem least_row {t : Int} : ∀ (n : Nat) {e : Int × Int} {r : List (Int × Int)}, r.length ≤ n → PRow ts ws k (e :: r) → e.1 = t → ∃ e' r', PRow ts ws k (e' :: r') ∧ e'.1 = t ∧ Least ts ws k (e' :: r')
  | 0, e, r, hl, h, he => ⟨e, r, h, he, fun _ _ _ _ => by omega⟩
  | n + 1, e, r, hl, h, he => by
    by_cases c : ∃ e' r', PRow ts ws k (e' :: r') ∧ e'.1 = t ∧ r'.length < r.length
    · obtain ⟨e', r', h', e2, hlt⟩ := c
      exact least_row n (by omega) h' e2
    · refine ⟨e, r, h, he, fun e' r' h' e2 => ?_⟩
      by_cases z : r.length ≤ r'.length
      · exact z
      · exact absurd ⟨e', r', h', e2.trans he, by omega⟩ c
/-- what pushes come to from e -/
inductive Rch (ts : List (Int × Int)) (ws : List V) (k : Int) (e : Int) : Int → Prop where
  | base : Rch ts ws k e e
  | step {s t f : Int} (h : Rch ts ws k e s) (f0 : 0 ≤ f) (f1 : f < k) (hn : ws[s.toNat]? ≠ some (.int f)) (hj : jn ts (numsFrom f 0 ws) (tk ts s).1 (tk ts s).2) (ho : OnR ts (numsFrom f 0 ws) s t) : Rch ts ws k e t
theorem Rch.rng {e t : Int} (hl : ws.length = ts.length) (h : Rch ts ws k e t) (he : 0 ≤ e ∧ e < (ts.length : Int)) : 0 ≤ t ∧ t < (ts.length : Int) := by
  induction h with
  | base => exact he
  | step _ _ _ _ _ ho _ =>
    obtain ⟨h0, h1⟩ := nums_iff.mp ho.1
    have := (List.getElem?_eq_some_iff.mp h1).1
    exact ⟨h0, by omega⟩
theorem layB_ne {s f : Int} (h : ws[s.toNat]? ≠ some (.int f)) : layB ws (s, f) = false := decide_eq_false h
theorem Rch.back {e t : Int} (hl : ws.length = ts.length) (h : Rch ts ws k e t) (he : 0 ≤ e ∧ e < (ts.length : Int)) : (∃ d r, PRow ts ws k (d :: r) ∧ d.1 = t) → ∃ d r, PRow ts ws k (d :: r) ∧ d.1 = e := by
  induction h with
  | base => exact id
  | @step s t f hs f0 f1 hn hj ho ih =>
    rintro ⟨d, r, hp, rfl⟩
    exact ih ⟨(s, f), d :: r, PRow.cons ⟨hs.rng hl he, f0, f1⟩ (layB_ne hn) ((jn_join (e := (s, f)) hl).mpr hj) ho hp, rfl⟩
open Classical in
theorem closed_of {e : Int} (hL : LayK ts k ws) (he : 0 ≤ e ∧ e < (ts.length : Int)) (hno : ¬ ∃ d r, PRow ts ws k (d :: r) ∧ d.1 = e) : ∃ R, Closed ts ws k R ∧ e ∈ R := by
  have hl := hL.len
  have mem : ∀ t, t ∈ (upTo ts.length).filter (fun t => decide (Rch ts ws k e t)) ↔ Rch ts ws k e t := fun t => by
    rw [List.mem_filter, decide_eq_true_eq]
    exact ⟨fun h => h.2, fun h => ⟨upTo_mem.mpr (h.rng hl he), h⟩⟩
  have ring : ∀ t, Rch ts ws k e t → ∀ f, 0 ≤ f → f < k → ws[t.toNat]? ≠ some (.int f) → jn ts (numsFrom f 0 ws) (tk ts t).1 (tk ts t).2 ∧ ∀ x, OnR ts (numsFrom f 0 ws) t x → Rch ts ws k e x := fun t ht f f0 f1 hn => by
    have hj : jn ts (numsFrom f 0 ws) (tk ts t).1 (tk ts t).2 := by
      by_cases c : jn ts (numsFrom f 0 ws) (tk ts t).1 (tk ts t).2
      · exact c
      · refine absurd (ht.back hl he ⟨(t, f), [], ⟨List.cons_ne_nil _ _, fun q hq => ?_, fun q hq => ?_, ?_⟩, rfl⟩) hno
        · rw [List.mem_singleton.mp hq]
          exact ⟨ht.rng hl he, f0, f1⟩
        · rw [List.mem_singleton.mp hq]
          exact layB_ne hn
        · show (!joinB ts ws (t, f)) = true
          cases z : joinB ts ws (t, f) with
          | false => rfl
          | true => exact absurd ((jn_join (e := (t, f)) hl).mp z) c
    exact ⟨hj, fun x hx => .step ht f0 f1 hn hj hx⟩
  refine ⟨_, ⟨(upTo_nd _).filter _, fun t ht => ((mem t).mp ht).rng hl he, fun t ht f f0 f1 hn => ?_, fun t ht s hs => ?_⟩, (mem e).mpr .base⟩
  · obtain ⟨a, b⟩ := ring t ((mem t).mp ht) f f0 f1 hn
    exact ⟨a, fun x hx => (mem x).mpr (b x hx)⟩
  · generalize hR : (upTo ts.length).filter (fun t => decide (Rch ts ws k e t)) = R at *
    have go : ∀ t, Rch ts ws k e t → jn ts R (tk ts t).1 (tk ts e).1 := fun t ht => by
      induction ht with
      | base => rfl
      | @step s t f hs f0 f1 hn hj ho ih =>
        obtain ⟨_, hring⟩ := ring s hs f f0 f1 hn
        have hF := (fo_nums hl).mpr (hL.tree f)
        obtain ⟨ns, hRg⟩ := ring_exists hF.nd hj
        have h1 := hRg.mem_iff hF.rl hF.nd
        have hsub : ∀ x ∈ ns, x ∈ R := fun x hx => (mem x).mpr (hring x ((h1 x).mp hx))
        obtain ⟨l1, l2, u, v, el, w1, w2, w3⟩ := hRg.way.cut ((h1 t).mpr ho)
        have e1 : jn ts R (tk ts s).1 u := w1.joined fun x hx => hsub x (by rw [el]; exact List.mem_append_left _ hx)
        have htR : t ∈ R := (mem t).mpr (.step hs f0 f1 hn hj ho)
        have e2 : jn ts R (tk ts t).1 (tk ts t).2 := Leads.foldR (ts := ts) htR (.inl rfl)
        have e3 : jn ts R (tk ts t).1 u := by
          rcases w2 with w2 | w2
          · have : (tk ts t) = (u, v) := w2
            rw [this]
          · have : (tk ts t) = (v, u) := w2
            rw [this] at e2 ⊢
            exact e2
        exact e3.trans (e1.symm.trans ih)
    exact (go t ((mem t).mp ht)).trans (go s ((mem s).mp hs)).symm
end
end FF
namespace FF
open PySem PySem.Spec PyProof.Rows L2
variable [LT]
theorem laidN_cons (x : V) (ws : List V) : laidN (x :: ws) = (if x = V.non then 0 else 1) + laidN ws := by
  unfold laidN
  rw [List.filter_cons]
  by_cases e : x = V.non
  · rw [if_pos e, if_neg (by rw [decide_eq_true e]; decide), Nat.zero_add]
  · rw [if_neg e, if_pos (by rw [decide_eq_false e]; rfl), List.length_cons, Nat.add_comm]
theorem laidN_set : ∀ {ws : List V} {i : Nat} {f : Int}, laidN ws ≤ laidN (ws.set i (.int f))
  | [], _, _ => Nat.le_refl _
  | x :: ws, 0, f => by
    rw [List.set_cons_zero, laidN_cons, laidN_cons, if_neg (show ¬ V.int f = V.non from fun z => nomatch z)]
    split <;> omega
  | x :: ws, i + 1, f => by
    rw [List.set_cons_succ, laidN_cons, laidN_cons]
    have := laidN_set (ws := ws) (i := i) (f := f)
    omega
theorem laidN_set_non : ∀ {ws : List V} {i : Nat} {f : Int}, ws[i]? = some .non → laidN ws < laidN (ws.set i (.int f))
  | [], _, _, h => by simp at h
  | x :: ws, 0, f, h => by
    cases h
    rw [List.set_cons_zero, laidN_cons, laidN_cons, if_neg (show ¬ V.int f = V.non from fun z => nomatch z), if_pos rfl]
    omega
  | x :: ws, i + 1, f, h => by
    rw [List.set_cons_succ, laidN_cons, laidN_cons]
    have := laidN_set_non (ws := ws) (i := i) (f := f) h
    omega
theorem laidN_push : ∀ (es : List (Int × Int)) {ws : List V}, laidN ws ≤ laidN (pushL ws es)
  | [], _ => Nat.le_refl _
  | e :: es, ws => Nat.le_trans laidN_set (laidN_push es (ws := ws.set e.1.toNat (.int e.2)))
open Classical in
theorem ends_lot {n : Int} {ts : List (Int × Int)} (ok : TOk n ts) {R : List Int} (hR : ∀ t ∈ R, 0 ≤ t ∧ t < (ts.length : Int)) (hne : R ≠ []) : ∃ ls, EndsOf ts R ls ∧ Lot n ls := by
  have hb : ∀ t ∈ R, 0 ≤ (tk ts t).1 ∧ (tk ts t).1 < (tk ts t).2 ∧ (tk ts t).2 < n := fun t ht => ok _ (List.mem_of_getElem? (getD_at (hR t ht).1 (hR t ht).2))
  have mem : ∀ x, x ∈ (upTo n).filter (fun x => decide (∃ t ∈ R, x = (tk ts t).1 ∨ x = (tk ts t).2)) ↔ ∃ t ∈ R, x = (tk ts t).1 ∨ x = (tk ts t).2 := fun x => by
    rw [List.mem_filter, decide_eq_true_eq]
    refine ⟨fun h => h.2, fun h => ⟨?_, h⟩⟩
    obtain ⟨t, ht, e⟩ := h
    have := hb t ht
    refine upTo_mem.mpr ?_
    rcases e with rfl | rfl <;> omega
  refine ⟨_, ⟨(upTo_nd n).filter _, mem⟩, fun z => ?_, (upTo_up n).filter _, fun x hx => upTo_mem.mp (List.mem_filter.mp hx).1⟩
  cases R with
  | nil => exact hne rfl
  | cons t r =>
    have := (mem (tk ts t).1).mpr ⟨t, List.mem_cons_self, .inl rfl⟩
    rw [z] at this
    cases this
theorem augment {n : Int} {ts : List (Int × Int)} {k : Int} {ws : List V} (ok : TOk n ts) (hL : LayK ts k ws) (hk : 0 ≤ k) (hno : ∀ ls, Lot n ls → (inside ls ts : Int) ≤ k * ((ls.length : Int) - 1)) {e : Int} (he : 0 ≤ e ∧ e < (ts.length : Int)) (hn : ws[e.toNat]? = some .non) : ∃ ws', LayK ts k ws' ∧ laidN ws < laidN ws' := by
  by_cases c : ∃ d r, PRow ts ws k (d :: r) ∧ d.1 = e
  · obtain ⟨d, r, hp, hd⟩ := c
    obtain ⟨e0, r0, hp0, h0, hm⟩ := least_row r.length (Nat.le_refl _) hp hd
    obtain ⟨nc, nd⟩ := hm.nocut hp0
    subst h0
    exact ⟨_, hL.push nd hp0.bd hp0.lay hp0.push hn nc, Nat.lt_of_lt_of_le (laidN_set_non hn) (laidN_push r0)⟩
  · obtain ⟨R, hC, heR⟩ := closed_of hL he c
    obtain ⟨ls, hE, hlot⟩ := ends_lot ok hC.rng (fun z => by rw [z] at heR; cases heR)
    have := hC.full hL hk hE heR hn
    have := hno ls hlot
    omega
theorem whole_of {n : Int} {ts : List (Int × Int)} {k : Int} (ok : TOk n ts) (hk : 0 ≤ k) (hno : ∀ ls, Lot n ls → (inside ls ts : Int) ≤ k * ((ls.length : Int) - 1)) : ∀ (m : Nat) {ws : List V}, LayK ts k ws → ts.length ≤ laidN ws + m → ∃ ws', LayK ts k ws' ∧ ∀ x ∈ ws', x ≠ V.non
  | m, ws, hL, hm => by
    by_cases c : ∀ x ∈ ws, x ≠ V.non
    · exact ⟨ws, hL, c⟩
    · have : ∃ x ∈ ws, x = V.non := by
        by_cases z : ∃ x ∈ ws, x = V.non
        · exact z
        · exact absurd (fun x hx e => z ⟨x, hx, e⟩) c
      obtain ⟨x, hx, rfl⟩ := this
      obtain ⟨i, hi⟩ := List.getElem?_of_mem hx
      have hil := (List.getElem?_eq_some_iff.mp hi).1
      have hlw := hL.len
      obtain ⟨ws', hL', hlt⟩ := augment ok hL hk hno (e := (i : Int)) ⟨by omega, by omega⟩ (by rw [Int.toNat_natCast]; exact hi)
      have hle := laidN_le ws'
      have hlw' := hL'.len
      match m, hm with
      | 0, hm => omega
      | m + 1, hm => exact whole_of ok hk hno m hL' (by omega)
/-- all ties can be laid in k forests just where no lot is full -/
theorem nash {n : Int} {ts : List (Int × Int)} {k : Int} (ok : TOk n ts) (hk : 0 ≤ k) : (∃ ws, LayK ts k ws ∧ ∀ x ∈ ws, x ≠ V.non) ↔ ∀ ls, Lot n ls → (inside ls ts : Int) ≤ k * ((ls.length : Int) - 1) :=
  ⟨fun ⟨_, hL, hw⟩ _ hlot => not_full hL hk hw hlot.nd hlot.ne, fun h => whole_of ok hk h ts.length (LayK.none ts) (by omega)⟩
/-! ### all ways to lay -/
end FF
namespace FF
open PySem PySem.Spec PyProof.Rows L2
variable [LT]
/-! ### things as entries and rows -/
/-- a thing as an entry: two values, or nothing of the kind -/
inductive EntT (H : Hp) : V → Option (V × V) → Prop where
  | no {t : V} {n : String} (h : TyN H t n) (hn : n ≠ "tuple") : EntT H t none
  | odd {a : Addr} {xs : List V} (h : H a = some (.tup xs)) (hl : xs.length ≠ 2) : EntT H (.ref a) none
  | yes {a : Addr} {x y : V} {n m : String} (h : H a = some (.tup [x, y])) (hx : TyN H x n) (hy : TyN H y m) : EntT H (.ref a) (some (x, y))
def entB (T k : Int) : Option (V × V) → Bool
  | none => false
  | some (x, y) => isNum x 0 (T - 1) && isNum y 0 (k - 1)
theorem EntT.mono {H H' : Hp} {t : V} {o : Option (V × V)} (h : EntT H t o) (k : ∀ q xs, H q = some (.tup xs) → H' q = some (.tup xs)) (y : ∀ v n, TyN H v n → TyN H' v n) : EntT H' t o := by
  cases h with
  | no h hn => exact .no (y _ _ h) hn
  | odd h hl => exact .odd (k _ _ h) hl
  | yes h hx hy => exact .yes (k _ _ h) (y _ _ hx) (y _ _ hy)
/-- a thing as a row -/
inductive RowO (H : Hp) : V → Option (List (Option (V × V))) → Prop where
  | no {v : V} {nm : String} (h : TyN H v nm) (hn : nm ≠ "tuple") : RowO H v none
  | yes {a : Addr} {xs : List V} {os : List (Option (V × V))} (h : H a = some (.tup xs)) (hx : Paired (EntT H) xs os) : RowO H (.ref a) (some os)
theorem RowO.mono {H H' : Hp} {t : V} {o : Option (List (Option (V × V)))} (h : RowO H t o) (k : ∀ q xs, H q = some (.tup xs) → H' q = some (.tup xs)) (y : ∀ v n, TyN H v n → TyN H' v n) : RowO H' t o := by
  cases h with
  | no h hn => exact .no (y _ _ h) hn
  | yes h hx => exact .yes (k _ _ h) (L2.Paired.mapP hx fun _ _ z => z.mono k y)
theorem RowO.ke {H H' : Hp} {t : V} {o : Option (List (Option (V × V)))} (h : RowO H t o) (k : Ke H H') : RowO H' t o := h.mono (fun _ _ => k.tup) fun _ _ z => z.ke k
def entOf (o : Option (V × V)) : Int × Int := match o with
  | some (.int x, .int y) => (x, y)
  | _ => (0, 0)
theorem EntT.ty {H : Hp} {x : V} {o : Option (V × V)} (h : EntT H x o) : ∃ n, TyN H x n := by
  cases h with
  | no h _ => exact ⟨_, h⟩
  | odd h _ => exact ⟨_, .tup h⟩
  | yes h _ _ => exact ⟨_, .tup h⟩
/-- a thing that can be asked as an entry -/
def EG (H : Hp) (x : V) : Prop := ∃ o, EntT H x o
theorem EG.mono {H H' : Hp} {x : V} (h : EG H x) (k : ∀ q xs, H q = some (.tup xs) → H' q = some (.tup xs)) (y : ∀ v n, TyN H v n → TyN H' v n) : EG H' x := h.elim fun o z => ⟨o, z.mono k y⟩
theorem EG.ke {H H' : Hp} {x : V} (h : EG H x) (k : Ke H H') : EG H' x := h.mono (fun _ _ => k.tup) fun _ _ z => z.ke k
theorem EG.new {H : Hp} {p : Addr} {o : HO} {x : V} (h : EG H x) (k : H p = none) : EG (upd H p o) x := h.ke (Ke.new k)
theorem EG.put {H : Hp} {p : Addr} {ys zs : List V} {x : V} (h : EG H x) (k : H p = some (.lst zs)) : EG (upd H p (.lst ys)) x := h.mono (fun q xs e => by rw [upd_ne (ne_of e k (fun z => nomatch z))]; exact e) fun _ _ z => z.put k
theorem EG.dk {H H' : Hp} {p : Addr} {x : V} (h : EG H x) (k : Dk p H H') (d : Deck H p) : EG H' x := h.mono (fun _ _ => k.tup d) fun _ _ z => z.dk k d
theorem EG.pair {H : Hp} {a : Addr} {x y : V} {n m : String} (h : H a = some (.tup [x, y])) (hx : TyN H x n) (hy : TyN H y m) : EG H (.ref a) := ⟨_, .yes h hx hy⟩
theorem EG.odd {H : Hp} {a : Addr} {xs : List V} (h : H a = some (.tup xs)) (hl : xs.length ≠ 2) : EG H (.ref a) := ⟨_, .odd h hl⟩
theorem EG.ty {H : Hp} {x : V} {n : String} (h : TyN H x n) (hn : n ≠ "tuple") : EG H x := ⟨_, .no h hn⟩
theorem Ties.eg {H : Hp} {rs : List V} {es : List (Int × Int)} (h : Ties H rs es) : ∀ x ∈ rs, EG H x := fun x hx => by
  obtain ⟨i, hi⟩ := List.getElem?_of_mem hx
  obtain ⟨e, q, _, rfl, hq⟩ := h.get hi
  exact EG.pair hq (.int _) (.int _)
end FF
namespace FF
open PySem PySem.Spec PyProof.Rows L2
variable [LT]
/-! ### levels, and all pushers with their rings -/
open Classical in
noncomputable def lowB (ts : List (Int × Int)) (ws : List V) (e : Int × Int) (m : Int) (ls : List Int) : Bool := if joinB ts ws e = true then decide (∀ x, OnRing ts ws e x → hat ls x ≤ hat ls e.1 + 1) else decide (hat ls e.1 ≥ m - 1)
/-- what is pushed out of forest f is low enough -/
def LowF (ts : List (Int × Int)) (ws : List V) (tie : Nat) (m : Int) (ls : List Int) (f : Int) : Prop := ∀ i : Nat, i < ts.length → (i = tie ∨ ws[i]? ≠ some .non) → ws[i]? ≠ some (.int f) → lowB ts ws ((i : Int), f) m ls = true
def LevP (ts : List (Int × Int)) (k : Int) (ws : List V) (tie : Nat) (m : Int) (ls : List Int) : Prop := hat ls (tie : Int) = 0 ∧ ∀ f, 0 ≤ f → f < k → LowF ts ws tie m ls f
end FF
namespace FF
open PySem PySem.Spec PyProof.Rows L2
variable [LT]
/-! ### slices of tuples that are known to the object -/
section
variable {X : Cx} {K : PySem.W.Frag}
end
/-! ### layers of ways: how many earlier ties go the same way -/
end FF
namespace FF
open PySem PySem.Spec PyProof.Rows L2
variable [LT]
/-! ### each piece of a layer of ways has no more ties than points -/
end FF
namespace FF
open PySem PySem.Spec PyProof.Rows L2
variable [LT]
/-! ### {e for x in xs for y in ys}: a set of ints of two walks, no test -/
section
open PySem.Spec
abbrev two (elt t0 i0 t1 i1 : Expr) (scope : Scope) (pos : Pos) : Expr := .SetComp elt [⟨t0, i0, [], 0⟩, ⟨t1, i1, [], 0⟩] scope pos
end
section
open PySem.Spec
variable {prog : Program} {w : World} {A : Around} {R : Result → Shared → Prop} {s : Shared}
end
section
variable {X : Cx}
end
end FF
namespace FF
open PySem PySem.Spec PyProof.Rows L2
variable [LT]
/-! ### rows as the program and the laws tell of them -/
noncomputable def pushedB (ts : List (Int × Int)) (ws : List V) (es : List (Int × Int)) : Bool := !(es.any (layB ws)) && pushB ts ws es
noncomputable def rowE (ts : List (Int × Int)) (k : Int) (ws : List V) (tie : Int) (es : List (Int × Int)) : Bool := (decide ((es.map Prod.fst).head? = some tie) && decide ((nub (es.map Prod.fst)).length = es.length)) && (pushedB ts ws es && layO ts k (some (pushL ws es)))
noncomputable def rowB (ts : List (Int × Int)) (k : Int) (ws : List V) (tie : Int) : Option (List (Option (V × V))) → Bool
  | none => false
  | some os => (!os.isEmpty && os.all (entB ts.length k)) && rowE ts k ws tie (os.map entOf)
end FF
namespace FF
open PySem PySem.Spec PyProof.Rows L2
variable [LT]
/-! ### the search for a free tie: who pushes whom, and how far each is -/
section
variable {ts : List (Int × Int)} {ws : List V} {k : Int}
/-- levels tell how short a row may be -/
theorem LevP.least {tie : Nat} {m : Int} {ls : List Int} (hw : ws.length = ts.length) (h : LevP ts k ws tie m ls) : ∀ {es : List (Int × Int)} {e : Int × Int} {r : List (Int × Int)}, es = e :: r → PRow ts ws k es → (e.1 = tie ∨ ws[e.1.toNat]? ≠ some .non) → m ≤ es.length + hat ls e.1
  | [], _, _, h0, _, _ => nomatch h0
  | [e], _, _, h0, hp, hx => by
    cases h0
    obtain ⟨⟨a0, a1⟩, f0, f1⟩ := hp.bd e (List.mem_singleton.mpr rfl)
    have hj : joinB ts ws e = false := by
      have := hp.push
      show joinB ts ws e = false
      have this : (!joinB ts ws e) = true := this
      cases z : joinB ts ws e with
      | false => rfl
      | true => rw [z] at this; cases this
    obtain ⟨i, hi⟩ : ∃ i : Nat, e.1 = i := ⟨e.1.toNat, by omega⟩
    have hl := h.2 e.2 f0 f1 i (by omega) (hx.imp (fun z => by omega) fun z => by rw [hi, Int.toNat_natCast] at z; exact z) (fun z => by
      have := hp.lay e (List.mem_singleton.mpr rfl)
      unfold layB at this
      rw [hi, Int.toNat_natCast, decide_eq_true z] at this
      cases this)
    rw [show (((i : Nat) : Int), e.2) = e by rw [← hi]] at hl
    unfold lowB at hl
    rw [if_neg (by rw [hj]; decide)] at hl
    have := of_decide_eq_true hl
    show m ≤ 1 + hat ls e.1
    omega
  | e :: e' :: r, _, _, h0, hp, hx => by
    cases h0
    obtain ⟨⟨a0, a1⟩, f0, f1⟩ := hp.bd e List.mem_cons_self
    obtain ⟨hj, ho, _⟩ := pushB_parts.mp hp.push
    obtain ⟨i, hi⟩ : ∃ i : Nat, e.1 = i := ⟨e.1.toNat, by omega⟩
    have hl := h.2 e.2 f0 f1 i (by omega) (hx.imp (fun z => by omega) fun z => by rw [hi, Int.toNat_natCast] at z; exact z) (fun z => by
      have := hp.lay e List.mem_cons_self
      unfold layB at this
      rw [hi, Int.toNat_natCast, decide_eq_true z] at this
      cases this)
    rw [show (((i : Nat) : Int), e.2) = e by rw [← hi]] at hl
    unfold lowB at hl
    rw [if_pos hj] at hl
    have h1 := (@of_decide_eq_true _ (Classical.propDecidable _) hl) e'.1 ho
    have h2 := LevP.least hw h rfl hp.tail (.inr fun z => by
      have := (nums_iff.mp ho.1).2
      rw [this] at z
      cases z)
    rw [List.length_cons] at h2 ⊢
    have : ((r.length + 1 + 1 : Nat) : Int) = ((r.length + 1 : Nat) : Int) + 1 := by omega
    show m ≤ (((e' :: r).length + 1 : Nat) : Int) + hat ls e.1
    rw [List.length_cons]
    omega
theorem LevP.Least {tie : Nat} {ls : List Int} (hw : ws.length = ts.length) {e : Int × Int} {r : List (Int × Int)} (h : LevP ts k ws tie ((e :: r).length : Int) ls) (he : e.1 = tie) : FF.Least ts ws k (e :: r) := fun e' r' hp he' => by
  have := LevP.least hw h (es := e' :: r') rfl hp (.inl (he'.trans he))
  rw [he'.trans he, h.1, List.length_cons, List.length_cons] at this
  omega
/-- what pushes come to, closed -/
theorem closed_keys {e : Int} {R : List Int} (hL : LayK ts k ws) (he : 0 ≤ e ∧ e < (ts.length : Int)) (hnd : R.Nodup) (mem : ∀ t, t ∈ R ↔ Rch ts ws k e t) (ring : ∀ t, Rch ts ws k e t → ∀ f, 0 ≤ f → f < k → ws[t.toNat]? ≠ some (.int f) → jn ts (numsFrom f 0 ws) (tk ts t).1 (tk ts t).2 ∧ ∀ x, OnR ts (numsFrom f 0 ws) t x → Rch ts ws k e x) : Closed ts ws k R := by
  have hl := hL.len
  refine ⟨hnd, fun t ht => ((mem t).mp ht).rng hl he, fun t ht f f0 f1 hn => ?_, fun t ht s hs => ?_⟩
  · obtain ⟨a, b⟩ := ring t ((mem t).mp ht) f f0 f1 hn
    exact ⟨a, fun x hx => (mem x).mpr (b x hx)⟩
  · have go : ∀ t, Rch ts ws k e t → jn ts R (tk ts t).1 (tk ts e).1 := fun t ht => by
      induction ht with
      | base => rfl
      | @step s t f hs f0 f1 hn hj ho ih =>
        obtain ⟨_, hring⟩ := ring s hs f f0 f1 hn
        have hF := (fo_nums hl).mpr (hL.tree f)
        obtain ⟨ns, hRg⟩ := ring_exists hF.nd hj
        have h1 := hRg.mem_iff hF.rl hF.nd
        have hsub : ∀ x ∈ ns, x ∈ R := fun x hx => (mem x).mpr (hring x ((h1 x).mp hx))
        obtain ⟨l1, l2, u, v, el, w1, w2, w3⟩ := hRg.way.cut ((h1 t).mpr ho)
        have e1 : jn ts R (tk ts s).1 u := w1.joined fun x hx => hsub x (by rw [el]; exact List.mem_append_left _ hx)
        have htR : t ∈ R := (mem t).mpr (.step hs f0 f1 hn hj ho)
        have e2 : jn ts R (tk ts t).1 (tk ts t).2 := Leads.foldR (ts := ts) htR (.inl rfl)
        have e3 : jn ts R (tk ts t).1 u := by
          rcases w2 with w2 | w2
          · have : (tk ts t) = (u, v) := w2
            rw [this]
          · have : (tk ts t) = (v, u) := w2
            rw [this] at e2 ⊢
            exact e2
        exact e3.trans (e1.symm.trans ih)
    exact (go t ((mem t).mp ht)).trans (go s ((mem s).mp hs)).symm
/-- keys with who pushes them, in the order of coming; lv: how far they are; the first a of them looked through -/
structure Bfs (ts : List (Int × Int)) (ws : List V) (k : Int) (tie : Nat) (fl : List (Int × Option (Int × Int))) (lv : Nat → Nat) (a : Nat) : Prop where
  head : fl[0]? = some ((tie : Int), none)
  nd : (fl.map Prod.fst).Nodup
  rng : ∀ x ∈ fl.map Prod.fst, 0 ≤ x ∧ x < (ts.length : Int)
  par : ∀ (i : Nat) x s f, fl[i]? = some (x, some (s, f)) → ∃ j, j < i ∧ (∃ o, fl[j]? = some (s, o)) ∧ lv i = lv j + 1 ∧ (0 ≤ f ∧ f < k) ∧ ws[s.toNat]? ≠ some (.int f) ∧ joinB ts ws (s, f) = true ∧ OnRing ts ws (s, f) x
  root : ∀ (i : Nat) x, fl[i]? = some (x, none) → i = 0
  lv0 : lv 0 = 0
  mono : ∀ i j, i ≤ j → j < fl.length → lv i ≤ lv j
  near : ∀ i, i < fl.length → a < fl.length → lv i ≤ lv a + 1
  done : ∀ j, j < a → ∀ s o, fl[j]? = some (s, o) → ∀ f, 0 ≤ f → f < k → ws[s.toNat]? ≠ some (.int f) → joinB ts ws (s, f) = true ∧ ∀ x, OnRing ts ws (s, f) x → ∃ i o', fl[i]? = some (x, o') ∧ lv i ≤ lv j + 1
variable {tie : Nat} {fl : List (Int × Option (Int × Int))} {lv : Nat → Nat} {a : Nat}
theorem Bfs.start (ht : tie < ts.length) : Bfs ts ws k tie [((tie : Int), none)] (fun _ => 0) 0 :=
  ⟨rfl, by simp, fun x hx => by rw [List.mem_singleton.mp hx]; omega, fun i x s f h => by
    cases i with
    | zero => cases h
    | succ i => simp at h, fun i x h => by
    cases i with
    | zero => rfl
    | succ i => simp at h, rfl, fun _ _ _ _ => Nat.le_refl _, fun _ _ _ => Nat.zero_le _, fun j hj => by omega⟩
theorem Bfs.add (h : Bfs ts ws k tie fl lv a) (hw : ws.length = ts.length) {s x f : Int} {o : Option (Int × Int)} (ha : fl[a]? = some (s, o)) (hx : x ∉ fl.map Prod.fst) (f0 : 0 ≤ f) (f1 : f < k) (hn : ws[s.toNat]? ≠ some (.int f)) (hj : joinB ts ws (s, f) = true) (ho : OnRing ts ws (s, f) x) : Bfs ts ws k tie (fl ++ [(x, some (s, f))]) (fun i => if i = fl.length then lv a + 1 else lv i) a := by
  have al : a < fl.length := (List.getElem?_eq_some_iff.mp ha).1
  have old : ∀ {i : Nat} {p}, fl[i]? = some p → (fl ++ [(x, some (s, f))])[i]? = some p ∧ i ≠ fl.length := fun {i p} e => by
    have := (List.getElem?_eq_some_iff.mp e).1
    exact ⟨by rw [List.getElem?_append_left this]; exact e, by omega⟩
  have cases_ : ∀ {i : Nat} {p}, (fl ++ [(x, some (s, f))])[i]? = some p → fl[i]? = some p ∨ (i = fl.length ∧ p = (x, some (s, f))) := fun {i p} e => by
    by_cases c : i < fl.length
    · rw [List.getElem?_append_left c] at e
      exact .inl e
    · have := (List.getElem?_eq_some_iff.mp e).1
      rw [List.length_append] at this
      have ei : i = fl.length := by
        have : i < fl.length + 1 := this
        omega
      rw [ei, List.getElem?_append_right (Nat.le_refl _), Nat.sub_self] at e
      exact .inr ⟨ei, (Option.some.inj e).symm⟩
  refine ⟨(old h.head).1, ?_, fun y hy => ?_, fun i y s' f' e => ?_, fun i y e => ?_, ?_, fun i j hij hj' => ?_, fun i hi _ => ?_, fun j hj' s' o' e f' g0 g1 hn' => ?_⟩
  · rw [List.map_append, List.nodup_append]
    exact ⟨h.nd, by simp, fun y hy z hz => by
      have e9 : z = x := List.mem_singleton.mp hz
      rw [e9]
      exact fun q => hx (by rw [← q]; exact hy)⟩
  · rw [List.map_append] at hy
    rcases List.mem_append.mp hy with hy | hy
    · exact h.rng y hy
    · have e9 : y = x := List.mem_singleton.mp hy
      rw [e9]
      have := nums_iff.mp ho.1
      refine ⟨this.1, ?_⟩
      have := (List.getElem?_eq_some_iff.mp this.2).1
      omega
  · rcases cases_ e with e | ⟨ei, e2⟩
    · obtain ⟨j, hj1, ⟨o', e'⟩, hl, r⟩ := h.par i y s' f' e
      refine ⟨j, hj1, ⟨o', (old e').1⟩, ?_, r⟩
      rw [if_neg (old e).2, if_neg (old e').2]
      exact hl
    · cases e2
      rw [ei]
      refine ⟨a, al, ⟨o, (old ha).1⟩, ?_, ⟨f0, f1⟩, hn, hj, ho⟩
      rw [if_pos rfl, if_neg (by omega)]
  · rcases cases_ e with e | ⟨_, e2⟩
    · exact h.root i y e
    · cases e2
  · show (if 0 = fl.length then _ else _) = 0
    rw [if_neg (by omega)]
    exact h.lv0
  · rw [List.length_append] at hj'
    have hj' : j < fl.length + 1 := hj'
    show (if i = fl.length then _ else _) ≤ (if j = fl.length then _ else _)
    by_cases c2 : j = fl.length
    · rw [if_pos c2]
      by_cases c1 : i = fl.length
      · rw [if_pos c1]
        exact Nat.le_refl _
      · rw [if_neg c1]
        exact h.near i (by omega) al
    · rw [if_neg c2, if_neg (by omega)]
      exact h.mono i j hij (by omega)
  · rw [List.length_append] at hi
    have hi : i < fl.length + 1 := hi
    show (if i = fl.length then _ else _) ≤ (if a = fl.length then _ else _) + 1
    rw [if_neg (show ¬ a = fl.length by omega)]
    by_cases c1 : i = fl.length
    · rw [if_pos c1]
      exact Nat.le_refl _
    · rw [if_neg c1]
      exact h.near i (by omega) al
  · rcases cases_ e with e | ⟨rfl, e⟩
    · obtain ⟨b1, b2⟩ := h.done j hj' s' o' e f' g0 g1 hn'
      refine ⟨b1, fun y hy => ?_⟩
      obtain ⟨i, o'', e', hl⟩ := b2 y hy
      refine ⟨i, o'', (old e').1, ?_⟩
      rw [if_neg (old e').2, if_neg (old e).2]
      exact hl
    · omega
theorem Bfs.next (h : Bfs ts ws k tie fl lv a) {s : Int} {o : Option (Int × Int)} (ha : fl[a]? = some (s, o)) (hd : ∀ f, 0 ≤ f → f < k → ws[s.toNat]? ≠ some (.int f) → joinB ts ws (s, f) = true ∧ ∀ x, OnRing ts ws (s, f) x → x ∈ fl.map Prod.fst) : Bfs ts ws k tie fl lv (a + 1) := by
  have al : a < fl.length := (List.getElem?_eq_some_iff.mp ha).1
  refine ⟨h.head, h.nd, h.rng, h.par, h.root, h.lv0, h.mono, fun i hi ha' => ?_, fun j hj s' o' e f f0 f1 hn => ?_⟩
  · have h1 := h.near i hi al
    have h2 := h.mono a (a + 1) (by omega) ha'
    omega
  · by_cases c : j < a
    · exact h.done j c s' o' e f f0 f1 hn
    · have ej : j = a := by omega
      subst ej
      rw [ha] at e
      cases e
      obtain ⟨b1, b2⟩ := hd f f0 f1 hn
      refine ⟨b1, fun x hx => ?_⟩
      obtain ⟨p, hp, rfl⟩ := List.mem_map.mp (b2 x hx)
      obtain ⟨i, hi⟩ := List.getElem?_of_mem hp
      exact ⟨i, p.2, hi, h.near i (List.getElem?_eq_some_iff.mp hi).1 al⟩
/-- one push more ahead of a row -/
theorem Bfs.step (h : Bfs ts ws k tie fl lv a) {i : Nat} {x s f g : Int} {r : List (Int × Int)} (e : fl[i]? = some (x, some (s, f))) (hp : PRow ts ws k ((x, g) :: r)) : PRow ts ws k ((s, f) :: (x, g) :: r) ∧ ∃ j o, j < i ∧ fl[j]? = some (s, o) ∧ lv i = lv j + 1 := by
  obtain ⟨j, hj, ⟨o', e'⟩, hlv, hf, hn, hjn, ho⟩ := h.par i x s f e
  exact ⟨hp.cons ⟨h.rng s (List.mem_map.mpr ⟨_, List.mem_of_getElem? e', rfl⟩), hf⟩ (layB_ne hn) hjn ho, j, o', hj, e', hlv⟩
theorem Bfs.key (h : Bfs ts ws k tie fl lv a) {i : Nat} {p : Int × Option (Int × Int)} (e : fl[i]? = some p) : p.1 ∈ fl.map Prod.fst := List.mem_map.mpr ⟨p, List.mem_of_getElem? e, rfl⟩
theorem Bfs.one (h : Bfs ts ws k tie fl lv a) {i j : Nat} {x : Int} {o o' : Option (Int × Int)} (e : fl[i]? = some (x, o)) (e' : fl[j]? = some (x, o')) : i = j := by
  have hi : (fl.map Prod.fst)[i]? = some x := by rw [List.getElem?_map, e]; rfl
  have hj : (fl.map Prod.fst)[j]? = some x := by rw [List.getElem?_map, e']; rfl
  obtain ⟨li, ei⟩ := List.getElem?_eq_some_iff.mp hi
  obtain ⟨lj, ej⟩ := List.getElem?_eq_some_iff.mp hj
  exact (List.getElem_inj h.nd).mp (ei.trans ej.symm)
theorem Bfs.levels (h : Bfs ts ws k tie fl lv a) (al : a < fl.length) {ls : List Int} (h1 : ∀ i x o, fl[i]? = some (x, o) → hat ls x = lv i) (h2 : ∀ x, 0 ≤ x → x < (ts.length : Int) → x ∉ fl.map Prod.fst → hat ls x = (lv a : Int) + 1) (hw : ws.length = ts.length) : LevP ts k ws tie ((lv a : Int) + 1) ls := by
  refine ⟨(h1 0 _ _ h.head).trans (by rw [h.lv0]; rfl), fun f f0 f1 s hs hp hn => ?_⟩
  have top : ∀ x, 0 ≤ x → x < (ts.length : Int) → hat ls x ≤ (lv a : Int) + 1 := fun x x0 x1 => by
    by_cases c : x ∈ fl.map Prod.fst
    · obtain ⟨p, hp, rfl⟩ := List.mem_map.mp c
      obtain ⟨i, hi⟩ := List.getElem?_of_mem hp
      rw [h1 i p.1 p.2 hi]
      have := h.near i (List.getElem?_eq_some_iff.mp hi).1 al
      omega
    · rw [h2 x x0 x1 c]
      exact Int.le_refl _
  have ringr : ∀ x, OnRing ts ws ((s : Int), f) x → 0 ≤ x ∧ x < (ts.length : Int) := fun x hx => by
    obtain ⟨x0, hx'⟩ := nums_iff.mp hx.1
    have := (List.getElem?_eq_some_iff.mp hx').1
    exact ⟨x0, by omega⟩
  unfold lowB
  by_cases cj : joinB ts ws ((s : Int), f) = true
  · rw [if_pos cj]
    refine @decide_eq_true _ (Classical.propDecidable _) fun x hx => ?_
    obtain ⟨x0, x1⟩ := ringr x hx
    have ht := top x x0 x1
    by_cases c : (s : Int) ∈ fl.map Prod.fst
    · obtain ⟨p, hp', ep⟩ := List.mem_map.mp c
      obtain ⟨j, hj⟩ := List.getElem?_of_mem hp'
      have ej := h1 j p.1 p.2 hj
      rw [ep] at ej
      show hat ls x ≤ hat ls (s : Int) + 1
      by_cases cja : j < a
      · obtain ⟨_, b2⟩ := h.done j cja p.1 p.2 hj f f0 f1 (by rw [ep, Int.toNat_natCast]; exact hn)
        rw [ep] at b2
        obtain ⟨i, o', hi, hl⟩ := b2 x hx
        rw [h1 i x o' hi, ej]
        omega
      · have := h.mono a j (by omega) (List.getElem?_eq_some_iff.mp hj).1
        omega
    · have := h2 (s : Int) (by omega) (by omega) c
      show hat ls x ≤ hat ls (s : Int) + 1
      omega
  · have cj : joinB ts ws ((s : Int), f) = false := by simpa using cj
    rw [if_neg (by rw [cj]; decide)]
    refine decide_eq_true ?_
    show hat ls (s : Int) ≥ (lv a : Int) + 1 - 1
    by_cases c : (s : Int) ∈ fl.map Prod.fst
    · obtain ⟨p, hp', ep⟩ := List.mem_map.mp c
      obtain ⟨j, hj⟩ := List.getElem?_of_mem hp'
      have ej := h1 j p.1 p.2 hj
      rw [ep] at ej
      by_cases cja : j < a
      · obtain ⟨b1, _⟩ := h.done j cja p.1 p.2 hj f f0 f1 (by rw [ep, Int.toNat_natCast]; exact hn)
        rw [ep, cj] at b1
        cases b1
      · have := h.mono a j (by omega) (List.getElem?_eq_some_iff.mp hj).1
        omega
    · have := h2 (s : Int) (by omega) (by omega) c
      omega
theorem Bfs.rch (h : Bfs ts ws k tie fl lv a) (hw : ws.length = ts.length) : ∀ (n i : Nat), i ≤ n → ∀ x o, fl[i]? = some (x, o) → Rch ts ws k (tie : Int) x
  | n, i, _, x, none, e => by
    have ei := h.root i x e
    subst ei
    rw [h.head] at e
    cases e
    exact .base
  | 0, i, hi, x, some (s, f), e => by
    obtain ⟨j, hj, _⟩ := h.par i x s f e
    omega
  | n + 1, i, hi, x, some (s, f), e => by
    obtain ⟨j, hj, ⟨o', e'⟩, _, ⟨f0, f1⟩, hn, hjn, ho⟩ := h.par i x s f e
    exact .step (h.rch hw n j (by omega) s o' e') f0 f1 hn ((jn_join (e := (s, f)) hw).mp hjn) ho
theorem Bfs.mem_rch (h : Bfs ts ws k tie fl lv a) (ha : fl.length ≤ a) (hw : ws.length = ts.length) : ∀ t, t ∈ fl.map Prod.fst ↔ Rch ts ws k (tie : Int) t := fun t => by
  constructor
  · intro z
    obtain ⟨p, hp, rfl⟩ := List.mem_map.mp z
    obtain ⟨i, hi⟩ := List.getElem?_of_mem hp
    exact h.rch hw i i (Nat.le_refl _) p.1 p.2 hi
  · intro z
    induction z with
    | base => exact h.key h.head
    | @step s t f hs f0 f1 hn hj ho ih =>
      obtain ⟨p, hp, rfl⟩ := List.mem_map.mp ih
      obtain ⟨j, hj'⟩ := List.getElem?_of_mem hp
      have jl := (List.getElem?_eq_some_iff.mp hj').1
      obtain ⟨_, b2⟩ := h.done j (by omega) p.1 p.2 hj' f f0 f1 hn
      obtain ⟨i, o', hi, _⟩ := b2 t ho
      exact h.key hi
theorem Bfs.closed (h : Bfs ts ws k tie fl lv a) (ha : fl.length ≤ a) (hL : LayK ts k ws) (ht : tie < ts.length) : Closed ts ws k (fl.map Prod.fst) := by
  have hw := hL.len
  have mem := h.mem_rch ha hw
  refine closed_keys hL ⟨by omega, by omega⟩ h.nd mem fun t ht' f f0 f1 hn => ?_
  obtain ⟨p, hp, rfl⟩ := List.mem_map.mp ((mem t).mpr ht')
  obtain ⟨j, hj'⟩ := List.getElem?_of_mem hp
  have jl := (List.getElem?_eq_some_iff.mp hj').1
  obtain ⟨b1, b2⟩ := h.done j (by omega) p.1 p.2 hj' f f0 f1 hn
  refine ⟨(jn_join (e := (p.1, f)) hw).mp b1, fun x hx => ?_⟩
  obtain ⟨i, o', hi, _⟩ := b2 x hx
  exact h.rch hw i i (Nat.le_refl _) x o' hi
/-- a row as long as the levels tell lays the tie -/
theorem PRow.lays {ls : List Int} {e : Int × Int} {r : List (Int × Int)} (hL : LayK ts k ws) (hp : PRow ts ws k (e :: r)) (he : e.1 = tie) (hl : LevP ts k ws tie ((e :: r).length : Int) ls) (h0 : ws[tie]? = some .non) : LayK ts k (pushL ws (e :: r)) ∧ ((e :: r).map Prod.fst).Nodup := by
  obtain ⟨hc, nd⟩ := Least.nocut hp (hl.Least hL.len he)
  refine ⟨hL.push nd hp.bd hp.lay hp.push (by rw [he, Int.toNat_natCast]; exact h0) hc, nd⟩
end
/-- from what is closed no row comes -/
theorem Closed.no_row {ts : List (Int × Int)} {ws : List V} {k : Int} {R : List Int} (h : Closed ts ws k R) (hw : ws.length = ts.length) : ∀ {es : List (Int × Int)} {e : Int × Int} {r : List (Int × Int)}, es = e :: r → PRow ts ws k es → e.1 ∈ R → False
  | [], _, _, h0, _, _ => nomatch h0
  | [e], _, _, h0, hp, hR => by
    cases h0
    obtain ⟨_, f0, f1⟩ := hp.bd e (List.mem_singleton.mpr rfl)
    have hl := hp.lay e (List.mem_singleton.mpr rfl)
    obtain ⟨hj, _⟩ := h.ring e.1 hR e.2 f0 f1 (of_decide_eq_false hl)
    have := push_last hp.push (e := e) rfl
    rw [(jn_join hw).mpr hj] at this
    cases this
  | e :: e' :: r, _, _, h0, hp, hR => by
    cases h0
    obtain ⟨_, f0, f1⟩ := hp.bd e List.mem_cons_self
    have hl := hp.lay e List.mem_cons_self
    obtain ⟨_, hr⟩ := h.ring e.1 hR e.2 f0 f1 (of_decide_eq_false hl)
    exact h.no_row hw rfl hp.tail (hr e'.1 (pushB_parts.mp hp.push).2.1)
section
variable {ts : List (Int × Int)} {ws : List V} {k : Int} {tie : Nat} {H H' : Hp} {fl : List (Int × Addr)} {bf : List (Int × Option (Int × Int))} {lv : Nat → Nat} {a : Nat}
end
end FF
namespace FF
open PySem PySem.Spec PyProof.Rows L2
variable [LT]
/-! ### dicts from ints to any values -/
theorem Ties.reverse {H : Hp} {rs : List V} {ts : List (Int × Int)} (h : Ties H rs ts) : Ties H rs.reverse ts.reverse := by
  unfold Ties at h
  induction h with
  | nil => exact .nil
  | cons a _ ih =>
    rw [List.reverse_cons, List.reverse_cons]
    exact Ties.append ih (.cons a .nil)
end FF
namespace FF
open PySem PySem.Spec PyProof.Rows L2
variable [LT]
/-! ### the heap while a free tie is sought -/
section
variable {H : Hp} {n : Int} {ts : List (Int × Int)} {ws : List V} {k : Int} {tie : Nat} {d nb hg wt : Addr} {bl : List (Int × Addr)} {G G' : Hp} {pl pl' : List (Int × V)} {fl fl' : List (Int × Option (Int × Int))} {lv lv' : Nat → Nat} {a a' : Nat} {gl gl' : List (Int × Addr)}
end
end FF
namespace FF
open PySem PySem.Spec PyProof.Rows L2
variable [LT]
/-! ### l.count(k) of ints and Nones -/
end FF
namespace FF
open PySem PySem.Spec PyProof.Rows L2
variable [LT]
/-! ### a ring in a forest is one sequence -/
theorem Way.split {ts : List (Int × Int)} : ∀ {p : List Int} {x z m : Int} {q : List Int}, Way ts x (p ++ m :: q) z → ∃ u v, Way ts x p u ∧ Leads ts m u v ∧ Way ts v q z
  | [], x, z, m, q, h => by
    obtain ⟨y, h1, h2⟩ := Way.inv h
    exact ⟨x, y, .nil x, h1, h2⟩
  | c :: p, x, z, m, q, h => by
    obtain ⟨y, h1, h2⟩ := Way.inv (show Way ts x (c :: (p ++ m :: q)) z from h)
    obtain ⟨u, v, a, b, d⟩ := Way.split h2
    exact ⟨u, v, .cons h1 a, b, d⟩
/-- m comes from a without m' -/
def Ere (ts : List (Int × Int)) (ms : List Int) (a m m' : Int) : Prop := foldR (fun x => x) (pick ts (but m' ms)) a = foldR (fun x => x) (pick ts (but m' ms)) (ts.getD m.toNat (0, 0)).1
theorem leads_end {ts : List (Int × Int)} {m u v : Int} (h : Leads ts m u v) : (ts.getD m.toNat (0, 0)).1 = u ∨ (ts.getD m.toNat (0, 0)).1 = v := by
  rcases h with h | h
  · exact .inl (by rw [h])
  · exact .inr (by rw [h])
section
variable {ts : List (Int × Int)} {ms : List Int} {a b : Int} {l : List Int}
theorem IsRing.ere (h : IsRing ts ms a b l) {p q : List Int} {m m' : Int} (e : l = p ++ m :: q) (hm : m' ∈ q) : Ere ts ms a m m' := by
  have hnd := h.nd
  subst e
  obtain ⟨u, v, w1, w2, _⟩ := Way.split h.way
  rw [List.nodup_append] at hnd
  obtain ⟨n1, n2, n3⟩ := hnd
  have n4 := (List.nodup_cons.mp n2).1
  have inb : ∀ x ∈ p, x ∈ but m' ms := fun x hx => mem_but.mpr ⟨h.mem x (List.mem_append_left _ hx), n3 x hx m' (List.mem_cons_of_mem _ hm)⟩
  have mb : m ∈ but m' ms := mem_but.mpr ⟨h.mem m (List.mem_append_right _ List.mem_cons_self), fun z => n4 (by rw [z]; exact hm)⟩
  have e1 := w1.joined inb
  have e2 := w2.foldR mb
  unfold Ere
  rcases leads_end w2 with z | z <;> rw [z]
  · exact e1
  · exact e1.trans e2
theorem split_at {l : List Int} {i j : Nat} (hi : i < l.length) (hj : j < l.length) (hij : i < j) : l = l.take i ++ l[i] :: l.drop (i + 1) ∧ l[j] ∈ l.drop (i + 1) := by
  refine ⟨?_, ?_⟩
  · rw [← List.drop_eq_getElem_cons hi, List.take_append_drop]
  · rw [List.mem_iff_getElem]
    refine ⟨j - (i + 1), by rw [List.length_drop]; omega, ?_⟩
    rw [List.getElem_drop]
    congr 1
    omega
theorem IsRing.up (h : IsRing ts ms a b l) : l.Pairwise (Ere ts ms a) := by
  rw [List.pairwise_iff_getElem]
  intro i j hi hj hij
  obtain ⟨e, hm⟩ := split_at hi hj hij
  exact h.ere e hm
end
/-! ### the search is one: which ties come, in which order -/
abbrev FlT := List (Int × Option (Int × Int))
open Classical in
noncomputable def ringL (ts : List (Int × Int)) (ws : List V) (s f : Int) : List Int := if h : ∃ l, IsRing ts (numsFrom f 0 ws) (tk ts s).1 (tk ts s).2 l then h.choose else []
noncomputable def grow (ts : List (Int × Int)) (ws : List V) (fl : FlT) (s f : Int) : FlT := fl ++ ((ringL ts ws s f).filter fun x => !decide (x ∈ fl.map Prod.fst)).map fun x => (x, some (s, f))
noncomputable def inF (ts : List (Int × Int)) (ws : List V) (s : Int) (fl : FlT) : Nat → FlT
  | 0 => fl
  | j + 1 => if ws[s.toNat]? = some (.int (j : Int)) then inF ts ws s fl j else grow ts ws (inF ts ws s fl j) s j
noncomputable def outF (ts : List (Int × Int)) (ws : List V) (k : Int) (tie : Nat) : Nat → FlT
  | 0 => [((tie : Int), none)]
  | a + 1 => match (outF ts ws k tie a)[a]? with
    | some p => inF ts ws p.1 (outF ts ws k tie a) k.toNat
    | none => outF ts ws k tie a
/-- the a-th is free in f -/
def Stp_ (ts : List (Int × Int)) (ws : List V) (k : Int) (tie : Nat) (a : Nat) (f : Int) : Prop := ∃ s o, (outF ts ws k tie a)[a]? = some (s, o) ∧ (0 ≤ f ∧ f < k) ∧ ws[s.toNat]? ≠ some (.int f) ∧ joinB ts ws (s, f) = false
/-- what the search has come to: the first that is free -/
structure Fst (ts : List (Int × Int)) (ws : List V) (k : Int) (tie : Nat) (a : Nat) (x f : Int) (fl : FlT) : Prop where
  fl_ : fl = inF ts ws x (outF ts ws k tie a) f.toNat
  key : ∃ o, (outF ts ws k tie a)[a]? = some (x, o)
  stop : Stp_ ts ws k tie a f
  ahead : ∀ a' f', (a' < a ∨ (a' = a ∧ f' < f)) → ¬ Stp_ ts ws k tie a' f'
theorem Fst.same {ts : List (Int × Int)} {ws : List V} {k : Int} {tie a a' : Nat} {x x' f f' : Int} {fl fl' : FlT} (h : Fst ts ws k tie a x f fl) (h' : Fst ts ws k tie a' x' f' fl') : a = a' ∧ x = x' ∧ f = f' ∧ fl = fl' := by
  have ea : a = a' := by
    rcases Nat.lt_trichotomy a a' with c | c | c
    · exact (h'.ahead a f (.inl c) h.stop).elim
    · exact c
    · exact (h.ahead a' f' (.inl c) h'.stop).elim
  subst ea
  have ef : f = f' := by
    by_cases c : f = f'
    · exact c
    · by_cases c2 : f < f'
      · exact (h'.ahead a f (.inr ⟨rfl, c2⟩) h.stop).elim
      · exact (h.ahead a f' (.inr ⟨rfl, by omega⟩) h'.stop).elim
  subst ef
  obtain ⟨o, e⟩ := h.key
  obtain ⟨o', e'⟩ := h'.key
  rw [e] at e'
  have ex : x = x' := by cases e'; rfl
  subst ex
  exact ⟨rfl, rfl, rfl, h.fl_.trans h'.fl_.symm⟩
/-- the pushes that lead to x -/
inductive Pth (fl : FlT) : Int → List (Int × Int) → Prop where
  | root {x : Int} (h : (x, none) ∈ fl) : Pth fl x []
  | step {x s f : Int} {es : List (Int × Int)} (h : (x, some (s, f)) ∈ fl) (p : Pth fl s es) : Pth fl x (es ++ [(s, f)])
theorem fl_one {fl : FlT} (nd : (fl.map Prod.fst).Nodup) {x : Int} {o o' : Option (Int × Int)} (h : (x, o) ∈ fl) (h' : (x, o') ∈ fl) : o = o' := by
  obtain ⟨i, hi⟩ := List.getElem?_of_mem h
  obtain ⟨j, hj⟩ := List.getElem?_of_mem h'
  have ei : (fl.map Prod.fst)[i]? = some x := by rw [List.getElem?_map, hi]; rfl
  have ej : (fl.map Prod.fst)[j]? = some x := by rw [List.getElem?_map, hj]; rfl
  obtain ⟨li, e1⟩ := List.getElem?_eq_some_iff.mp ei
  obtain ⟨lj, e2⟩ := List.getElem?_eq_some_iff.mp ej
  have := (List.getElem_inj nd).mp (e1.trans e2.symm)
  subst this
  rw [hi] at hj
  cases hj
  rfl
theorem Pth.same {fl : FlT} (nd : (fl.map Prod.fst).Nodup) {x : Int} {es es' : List (Int × Int)} (h : Pth fl x es) (h' : Pth fl x es') : es = es' := by
  induction h generalizing es' with
  | root h =>
    cases h' with
    | root _ => rfl
    | step h2 _ => cases fl_one nd h h2
  | step h p ih =>
    cases h' with
    | root h2 => cases fl_one nd h h2
    | step h2 p2 =>
      cases fl_one nd h h2
      rw [ih p2]
theorem Bfs.lv_same {ts : List (Int × Int)} {ws : List V} {k : Int} {tie : Nat} {fl : FlT} {lv lv' : Nat → Nat} {a a' : Nat} (h : Bfs ts ws k tie fl lv a) (h' : Bfs ts ws k tie fl lv' a') : ∀ i, i < fl.length → lv i = lv' i := by
  intro i
  induction i using Nat.strongRecOn with
  | _ i ih =>
    intro hi
    obtain ⟨x, o, hx⟩ : ∃ x o, fl[i]? = some (x, o) := ⟨fl[i].1, fl[i].2, List.getElem?_eq_getElem hi⟩
    cases o with
    | none => rw [h.root i x hx, h.lv0, h'.lv0]
    | some sf =>
      obtain ⟨j, hj, ⟨o1, e1⟩, l1, _⟩ := h.par i x sf.1 sf.2 hx
      obtain ⟨j', hj', ⟨o2, e2⟩, l2, _⟩ := h'.par i x sf.1 sf.2 hx
      have := h.one e1 e2
      subst this
      rw [l1, l2, ih j hj (by omega)]
end FF
namespace FF
open PySem PySem.Spec PyProof.Rows L2
variable [LT]
/-! ### what push_tie tells -/
def Laid_ (ts : List (Int × Int)) (k : Int) (ws : List V) (tie : Nat) (e : Int × Int) (es : List (Int × Int)) (ls : List Int) : Prop :=
  PRow ts ws k (e :: es) ∧ e.1 = (tie : Int) ∧ ls.length = ts.length ∧ (∀ y ∈ ls, 0 ≤ y ∧ y ≤ 121) ∧ LevP ts k ws tie ((e :: es).length : Int) ls ∧
  ∃ (fl : FlT) (lv : Nat → Nat) (a : Nat) (x g : Int) (mid : List (Int × Int)), Fst ts ws k tie a x g fl ∧ Bfs ts ws k tie fl lv a ∧ e :: es = mid ++ [(x, g)] ∧ Pth fl x mid ∧ (∀ (i : Nat) y o, fl[i]? = some (y, o) → hat ls y = lv i) ∧ ∀ y, 0 ≤ y → y < (ts.length : Int) → y ∉ fl.map Prod.fst → hat ls y = ((e :: es).length : Int)
def Full_ (ts : List (Int × Int)) (n k : Int) (ws : List V) (tie : Nat) (ls R : List Int) : Prop := Lot n ls ∧ EndsOf ts R ls ∧ Closed ts ws k R ∧ (tie : Int) ∈ R ∧ ∀ t, t ∈ R ↔ Rch ts ws k (tie : Int) t
def Told (ts : List (Int × Int)) (n k : Int) (ws : List V) (tie : Nat) (H : Hp) (x : Addr) : Prop :=
  (∃ (r c : Addr) (xs : List V) (e : Int × Int) (es : List (Int × Int)) (ls : List Int), H x = some (.tup [.str "laid", .ref r, .ref c]) ∧ H r = some (.tup xs) ∧ Ties H xs (e :: es) ∧ H c = some (.tup (ls.map V.int)) ∧ Laid_ ts k ws tie e es ls) ∨
  ∃ (c : Addr) (ls R : List Int), H x = some (.tup [.str "full", .ref c]) ∧ H c = some (.tup (ls.map V.int)) ∧ Full_ ts n k ws tie ls R
theorem Told.mono {ts : List (Int × Int)} {n k : Int} {ws : List V} {tie : Nat} {H H' : Hp} {x : Addr} (h : Told ts n k ws tie H x) (kk : ∀ q xs, H q = some (.tup xs) → H' q = some (.tup xs)) : Told ts n k ws tie H' x := by
  rcases h with ⟨r, c, xs, e, es, ls, h1, h2, h3, h4, h5⟩ | ⟨c, ls, R, h1, h2, h3⟩
  · exact .inl ⟨r, c, xs, e, es, ls, kk _ _ h1, kk _ _ h2, h3.mono kk, kk _ _ h4, h5⟩
  · exact .inr ⟨c, ls, R, kk _ _ h1, kk _ _ h2, h3⟩
theorem Laid_.same {ts : List (Int × Int)} {k : Int} {ws : List V} {tie : Nat} {e e' : Int × Int} {es es' : List (Int × Int)} {ls ls' : List Int} (h : Laid_ ts k ws tie e es ls) (h' : Laid_ ts k ws tie e' es' ls') : e :: es = e' :: es' ∧ ls = ls' := by
  obtain ⟨_, _, l1, _, _, fl, lv, a, x, g, mid, hF, hB, he, hp, hl, ho⟩ := h
  obtain ⟨_, _, l2, _, _, fl', lv', a', x', g', mid', hF', hB', he', hp', hl', ho'⟩ := h'
  obtain ⟨rfl, rfl, rfl, rfl⟩ := hF.same hF'
  have em := hp.same hB.nd hp'
  have ee : e :: es = e' :: es' := by rw [he, he', em]
  refine ⟨ee, ext_hat (l1.trans l2.symm) fun y y0 y1 => ?_⟩
  by_cases c : y ∈ fl.map Prod.fst
  · obtain ⟨p, hp, rfl⟩ := List.mem_map.mp c
    obtain ⟨i, hi⟩ := List.getElem?_of_mem hp
    rw [hl i p.1 p.2 hi, hl' i p.1 p.2 hi, hB.lv_same hB' i (List.getElem?_eq_some_iff.mp hi).1]
  · rw [ho y y0 (by omega) c, ho' y y0 (by omega) c, ee]
theorem sorted_one : ∀ {as bs : List Int}, as.Pairwise (· < ·) → bs.Pairwise (· < ·) → (∀ x, x ∈ as ↔ x ∈ bs) → as = bs := fun {as bs} ha hb h =>
  List.Perm.eq_of_pairwise (fun a b _ _ h1 h2 => by omega) ha hb ((List.perm_ext_iff_of_nodup (ha.imp fun z => by omega) (hb.imp fun z => by omega)).mpr h)
theorem Full_.same {ts : List (Int × Int)} {n k : Int} {ws : List V} {tie : Nat} {ls ls' R R' : List Int} (h : Full_ ts n k ws tie ls R) (h' : Full_ ts n k ws tie ls' R') : ls = ls' := by
  obtain ⟨h1, h2, _, _, h5⟩ := h
  obtain ⟨g1, g2, _, _, g5⟩ := h'
  refine sorted_one h1.up g1.up fun x => (h2.mem x).trans (Iff.trans ?_ (g2.mem x).symm)
  constructor
  · rintro ⟨t, ht, z⟩
    exact ⟨t, (g5 t).mpr ((h5 t).mp ht), z⟩
  · rintro ⟨t, ht, z⟩
    exact ⟨t, (h5 t).mpr ((g5 t).mp ht), z⟩
theorem Laid_.not_full {ts : List (Int × Int)} {n k : Int} {ws : List V} {tie : Nat} {e : Int × Int} {es : List (Int × Int)} {ls ls' R : List Int} (hw : ws.length = ts.length) (h : Laid_ ts k ws tie e es ls) (h' : Full_ ts n k ws tie ls' R) : False := h'.2.2.1.no_row hw rfl h.1 (by rw [h.2.1]; exact h'.2.2.2.1)
end FF
namespace FF
open PySem PySem.Spec PyProof.Rows L2
variable [LT]
/-! ### the data of what push_tie tells -/
def dE (es : List (Int × Int)) : PyData := .tuple (es.map fun e => .tuple [.int e.1, .int e.2])
theorem dE_sh (es : List (Int × Int)) : Sh 2 (dE es) := Sh.tup fun d hd => by
  obtain ⟨e, _, rfl⟩ := List.mem_map.mp hd
  refine (Sh.tup (k := 0) fun d hd => ?_)
  rcases List.mem_cons.mp hd with rfl | hd
  · exact Sh.int
  · rw [List.mem_singleton.mp hd]
    exact Sh.int
theorem Ties.dpA {K : PySem.W.Frag} {H : Hp} {xs : List V} {es : List (Int × Int)} (h : Ties H xs es) : DpAll K H xs (es.map fun e => .tuple [.int e.1, .int e.2]) := by
  unfold Ties at h
  induction h with
  | nil => exact .nil
  | cons a _ ih =>
    obtain ⟨q, rfl, hq⟩ := a
    exact .cons (.tup (sqT_of hq) (.cons (.int _) (.cons (.int _) .nil))) ih
theorem ints_sh (ls : List Int) : Sh 1 (.tuple (ls.map PyData.int)) := Sh.tup fun d hd => by
  obtain ⟨e, _, rfl⟩ := List.mem_map.mp hd
  exact Sh.int
theorem Sh.str {x : Str} (h : (PyData.str x).canLay0 = true := by decide +kernel) : Sh 0 (.str x) := ⟨h, Nat.le_refl _⟩
theorem Told.data {K : PySem.W.Frag} {ts : List (Int × Int)} {n k : Int} {ws : List V} {tie : Nat} {H : Hp} {x y : Addr} (hw : ws.length = ts.length) (h : Told ts n k ws tie H x) (h' : Told ts n k ws tie H y) : ∃ d, Dp K H (.ref x) d ∧ Dp K H (.ref y) d ∧ SeqAt.shaped d = true := by
  rcases h with ⟨r, c, xs, e, es, ls, h1, h2, h3, h4, h5⟩ | ⟨c, ls, R, h1, h2, h3⟩
  · rcases h' with ⟨r', c', xs', e', es', ls', g1, g2, g3, g4, g5⟩ | ⟨c', ls', R', g1, g2, g3⟩
    · obtain ⟨e1, e2⟩ := h5.same g5
      subst e2
      rw [← e1] at g3
      refine ⟨.tuple [.str "laid", dE (e :: es), .tuple (ls.map PyData.int)], .tup (sqT_of h1) (.cons (.str _) (.cons (.tup (sqT_of h2) h3.dpA) (.cons (.tup (sqT_of h4) (dp_ints ls)) .nil))), .tup (sqT_of g1) (.cons (.str _) (.cons (.tup (sqT_of g2) g3.dpA) (.cons (.tup (sqT_of g4) (dp_ints ls)) .nil))), (Sh.tup (k := 2) fun d hd => ?_).shaped⟩
      rcases List.mem_cons.mp hd with rfl | hd
      · exact Sh.up .str (Nat.zero_le _)
      rcases List.mem_cons.mp hd with rfl | hd
      · exact dE_sh _
      · rw [List.mem_singleton.mp hd]
        exact (ints_sh ls).up (by decide)
    · exact (h5.not_full hw g3).elim
  · rcases h' with ⟨r', c', xs', e', es', ls', g1, g2, g3, g4, g5⟩ | ⟨c', ls', R', g1, g2, g3⟩
    · exact (g5.not_full hw h3).elim
    · have e2 := h3.same g3
      subst e2
      refine ⟨.tuple [.str "full", .tuple (ls.map PyData.int)], .tup (sqT_of h1) (.cons (.str _) (.cons (.tup (sqT_of h2) (dp_ints ls)) .nil)), .tup (sqT_of g1) (.cons (.str _) (.cons (.tup (sqT_of g2) (dp_ints ls)) .nil)), (Sh.tup (k := 2) fun d hd => ?_).shaped⟩
      rcases List.mem_cons.mp hd with rfl | hd
      · exact Sh.up .str (Nat.zero_le _)
      · rw [List.mem_singleton.mp hd]
        exact (ints_sh ls).up (by decide)
end FF
namespace FF
open PySem PySem.Spec PyProof.Rows L2
variable [LT]
/-! ### strips: each tie brings a point that its forest has not touched -/
theorem layerOf_app {ts us : List (Int × Int)} {ws vs : List V} (h : ts.length = ws.length) (f : Int) : layerOf (ts ++ us) (ws ++ vs) f = layerOf ts ws f ++ layerOf us vs f := by
  unfold layerOf
  rw [List.zip_append h, List.filter_append, List.map_append]
theorem LayK.turn {ts : List (Int × Int)} {k : Int} {ws : List V} (h : LayK ts k ws) (r : Nat) : LayK (ts.drop r ++ ts.take r) k (ws.drop r ++ ws.take r) := by
  have hl := h.len
  refine ⟨by rw [List.length_append, List.length_append, List.length_drop, List.length_drop, List.length_take, List.length_take, hl], fun x hx => ?_, fun f => ?_⟩
  · rcases List.mem_append.mp hx with hx | hx
    · exact h.each x (List.mem_of_mem_drop hx)
    · exact h.each x (List.mem_of_mem_take hx)
  · have e : layerOf ts ws f = layerOf (ts.take r) (ws.take r) f ++ layerOf (ts.drop r) (ws.drop r) f := by
      rw [← layerOf_app (by rw [List.length_take, List.length_take, hl]), List.take_append_drop, List.take_append_drop]
    rw [layerOf_app (by rw [List.length_drop, List.length_drop, hl]), ringlessF_perm List.perm_append_comm, ← e]
    exact h.tree f
end FF
namespace FF
open PySem PySem.Spec PyProof.Rows L2
variable [LT]
/-! ### laying tie after tie -/
theorem row_laid {ts : List (Int × Int)} {ws : List V} {k : Int} : ∀ {es : List (Int × Int)} {e : Int × Int} {r : List (Int × Int)}, es = e :: r → PRow ts ws k es → ∀ x ∈ r, ws[x.1.toNat]? ≠ some .non
  | [], _, _, h0, _ => nomatch h0
  | [e], _, _, h0, _ => by
    cases h0
    exact fun _ z => nomatch z
  | e :: e' :: r, _, _, h0, hp => by
    cases h0
    intro x hx
    rcases List.mem_cons.mp hx with rfl | hx
    · have h := (nums_iff.mp (pushB_parts.mp hp.push).2.1.1).2
      rw [h]
      exact fun z => nomatch z
    · exact row_laid rfl hp.tail x hx
theorem pushL_out : ∀ (es : List (Int × Int)) {ws : List V} {i : Nat}, (∀ e ∈ es, e.1.toNat ≠ i) → (pushL ws es)[i]? = ws[i]?
  | [], _, _, _ => rfl
  | e :: es, ws, i, h => by
    show (pushL (ws.set e.1.toNat (.int e.2)) es)[i]? = _
    rw [pushL_out es fun x hx => h x (List.mem_cons_of_mem _ hx), List.getElem?_set_ne (h e List.mem_cons_self)]
theorem pushL_some : ∀ (es : List (Int × Int)) {ws : List V} {i : Nat}, ws[i]? ≠ some .non → (pushL ws es)[i]? ≠ some .non
  | [], _, _, h => h
  | e :: es, ws, i, h => by
    show (pushL (ws.set e.1.toNat (.int e.2)) es)[i]? ≠ _
    refine pushL_some es ?_
    by_cases c : e.1.toNat = i
    · subst c
      rw [List.getElem?_set_self']
      cases ws[e.1.toNat]? with
      | none => exact fun z => nomatch z
      | some _ => exact fun z => nomatch z
    · rw [List.getElem?_set_ne c]
      exact h
theorem pushL_mem : ∀ (es : List (Int × Int)) {ws : List V} {e : Int × Int}, e ∈ es → (pushL ws es)[e.1.toNat]? ≠ some .non
  | d :: es, ws, e, he => by
    show (pushL (ws.set d.1.toNat (.int d.2)) es)[e.1.toNat]? ≠ _
    rcases List.mem_cons.mp he with rfl | he
    · refine pushL_some es ?_
      rw [List.getElem?_set_self']
      cases ws[e.1.toNat]? with
      | none => exact fun z => nomatch z
      | some _ => exact fun z => nomatch z
    · exact pushL_mem es he
theorem Laid_.step {ts : List (Int × Int)} {k : Int} {ws : List V} {tie : Nat} {e : Int × Int} {es : List (Int × Int)} {ls : List Int} (hL : LayK ts k ws) (h0 : ws[tie]? = some .non) (h : Laid_ ts k ws tie e es ls) :
    LayK ts k (pushL ws (e :: es)) ∧ ∀ i : Nat, (pushL ws (e :: es))[i]? = some .non ↔ ws[i]? = some .non ∧ i ≠ tie := by
  obtain ⟨h1, h2, h3, h4, h5, _⟩ := h
  refine ⟨(h1.lays hL h2 h5 h0).1, fun i => ⟨fun z => ⟨?_, fun c => ?_⟩, fun ⟨z, c⟩ => ?_⟩⟩
  · by_cases c : ws[i]? = some .non
    · exact c
    · exact (pushL_some _ c z).elim
  · have := pushL_mem (e :: es) (ws := ws) (e := e) List.mem_cons_self
    rw [show e.1.toNat = i by omega] at this
    exact this z
  · rw [pushL_out, z]
    intro x hx
    rcases List.mem_cons.mp hx with rfl | hx
    · omega
    · intro q
      have := row_laid rfl h1 x hx
      rw [q] at this
      exact this z
end FF
namespace FF
open PySem PySem.Spec PyProof.Rows L2
variable [LT]
/-! ### sorted(set), any number of members -/
section
variable {P : Program} {w : World} {A : Around} {E : Value → Shared → Prop} {s : Shared}
theorem sorted_setB {a : Addr} {S : Int → Bool} {n : Nat} {Q : Value → Shared → Prop} (R : SetR w s.heap a S n) (hh : A.handled = none) (hn0 : n ≤ 1000)
    (hQ : ∀ s' p (c : Nat) (out : Array Value) (ns : List Int), (∀ b o, s.heap.get? b = some o → s'.heap.get? b = some o) → s'.gens = s.gens → s'.os = s.os → s.heap.objs.size ≤ p →
      s'.heap.get? p = some (seqObj "list" out c) → IntsAre out.toList ns → ns.Pairwise (· < ·) → (∀ k, k ∈ ns ↔ S k = true) → ns.length = n → Q (.ref p) s') :
    wpAny (model P w) A (call (.builtin "sorted") [.ref a]) Q E s := by
  obtain ⟨o, es, ep, t, ho, hx, hd, g, nd, hm, hb, hf, hn, hr, hl⟩ := R
  refine Calls.call_function_entry kind_sorted plain_sorted entry_sorted (args_sorted1 _) ?_
  unfold Builtin.«sorted»
  refine wpAny_bind (m := checkCount "sorted" 1 1 _) (wpAny_pure ?_)
  refine wpAny_bind (collect_set (A := A.in1) hh ⟨o, ho, hx.1, hd⟩ hf hb hr hl fun s1 vs kk hz gg oo pm => ?_)
  have vl : vs.length = n := by rw [pm.length_eq, List.length_map, Array.length_toList]; exact hn
  have hI : IntsAre vs (vs.map Builtin.Re.reRawOf) := ints_of vs fun v hv => by
    obtain ⟨e, he, q⟩ := List.mem_map.mp (pm.mem_iff.mp hv)
    obtain ⟨k, tk, e1, _⟩ := g e he
    exact ⟨k, tk, by rw [← q]; exact e1⟩
  have pk : (vs.map Builtin.Re.reRawOf).Perm (es.toList.map keyOf) := by
    have := pm.map Builtin.Re.reRawOf
    rwa [List.map_map] at this
  have big : vs.length ≤ sizeLine := by rw [vl, sizeLine_eq]; omega
  refine wpAny_bind (wpAny_newList ?_ big)
  have at1 : (s1.heap.push (seqObj "list" vs.toArray 0)).get? s1.heap.objs.size = some (seqObj "list" vs.toArray 0) := Heap.get?_push_size _ rfl
  refine wpAny_bind (wpAny_holding (wpAny_call_entry slot_list_sort ⟨_, at1, rfl⟩ entry_list_sort (SrtO.list_sort_ord SrtO.swo_int at1 big (fun h2 => SrtO.ints_sortable hI h2) fun out q1 q2 => ⟨_, rfl, ?_⟩) (args_list_sort _)))
  obtain ⟨k1, k2, k3⟩ := SrtO.ints_out hI q1 q2
  obtain ⟨c, hc⟩ := sortedHeap_at (vs := vs) (out := out.toArray) at1
  have pn : (out.map SrtO.iv).Perm (es.toList.map keyOf) := k2.trans pk
  refine wpAny_pure ⟨_, rfl, hQ _ s1.heap.objs.size c out.toArray _ (fun b u e => ?_) gg oo hz hc k1 (lt_of_le_nodup _ k3 (pn.nodup_iff.mpr nd)) (fun k => by rw [pn.mem_iff, ← hm k]) ?_⟩
  · have q := kk b u e
    have hlt := Heap.lt_size q
    show (sortedHeap (s1.heap.push (seqObj "list" vs.toArray 0)) s1.heap.objs.size vs out.toArray).get? b = some u
    rw [sortedHeap_old (Nat.ne_of_lt hlt) (by rw [size_push']; exact Nat.lt_succ_of_lt hlt)]
    exact Heap.get?_push_of_some _ q
  · rw [pn.length_eq, List.length_map, Array.length_toList]; exact hn
end
def rSortedSetB (w : World) : List V → Hp → VK → Prop := fun vs H Q => ∃ (a : Addr) (S : Int → Bool) (n : Nat), vs = [V.ref a] ∧ H a = some (SetO w a S n) ∧ n ≤ 1000 ∧
  ∀ (ns : List Int) (p : Addr), ns.Pairwise (· < ·) → (∀ k : Int, k ∈ ns ↔ S k = true) → ns.length = n → H p = none → Q (.ref p) (upd H p (.lst (ns.map V.int)))
section
variable {X : Cx}
theorem cr_sortedSetB (hc : X.calm = true) : CallR X (.builtin "sorted") (rSortedSetB X.w) := by
  intro pins s σ H vs us Q I r h
  obtain ⟨a, S, n, rfl, ha, hn0, q⟩ := h
  rw [Vals.ref1 r]
  refine sorted_setB (setO_get I ha) (I.ok.hd hc) hn0 fun s' p c out ns k g o hp hg hi hs hm hl => ?_
  have hlen : (ns.map V.int).length ≤ sizeLine := by rw [List.length_map, hl, sizeLine_eq]; omega
  have hn : H p = none := I.hok.fresh hp
  have J : Inv X pins σ (upd H p (.lst (ns.map V.int))) { s with heap := s'.heap, gens := s'.gens, drawn := s'.drawn, toks := s'.toks } :=
    I.call (ch := []) (Un.laid k hp hn) (I.hok.laid k hp ⟨hlen, out.toList, c, vals_of_ints hi, hg⟩) (by rw [g]; exact I.bare) (fun _ z => nomatch z)
  have e : { s with heap := s'.heap, gens := s'.gens, drawn := s'.drawn, toks := s'.toks } = s' := by
    cases s'
    cases s
    cases o
    rfl
  rw [← e]
  exact ⟨.ref p, _, J, rfl, q ns p hs hm hl hn⟩
end
end FF
namespace FF
open PySem PySem.Spec PyProof.Rows L2
variable [LT]
/-! ### every second one of a list -/
section
variable {X : Cx}
end
end FF
namespace FF
open PySem PySem.Spec PyProof.Rows L2
variable [LT]
/-! ### numbers in the order of their first places -/
/-! ### the parting around lots -/
/-! ### tight lots -/
structure TightL (ts : List (Int × Int)) (n k : Int) (ws : List V) (ls : List Int) : Prop where
  lot : Lot n ls
  tight : ∀ f, 0 ≤ f → f < k → inside ls (layerOf ts ws f) + 1 = ls.length
theorem nub_all {l : List Int} (h : (nub l).length = 1) {a b : Int} (ha : a ∈ l) (hb : b ∈ l) : a = b := by
  have ha := (mem_nub l a).mpr ha
  have hb := (mem_nub l b).mpr hb
  match nub l, h, ha, hb with
  | [c], _, ha, hb => rw [List.mem_singleton.mp ha, List.mem_singleton.mp hb]
theorem tight_joined {n : Int} {ls : List Int} {L : List (Int × Int)} (h : ringlessF (fun x => x) L = true) (hl : Lot n ls) (ht : inside ls L + 1 = ls.length) {x y : Int} (hx : x ∈ ls) (hy : y ∈ ls) :
    foldR (fun x => x) (L.filter fun t => decide (t.1 ∈ ls) && decide (t.2 ∈ ls)) x = foldR (fun x => x) (L.filter fun t => decide (t.1 ∈ ls) && decide (t.2 ∈ ls)) y := by
  have c := lot_count (ls := ls) (ringlessF_filter (fun t => decide (t.1 ∈ ls) && decide (t.2 ∈ ls)) h) fun t ht => by
    have := (List.mem_filter.mp ht).2
    rw [Bool.and_eq_true, decide_eq_true_eq, decide_eq_true_eq] at this
    exact this
  rw [List.map_id', nub_of_nd hl.nd] at c
  have ht : (L.filter fun t => decide (t.1 ∈ ls) && decide (t.2 ∈ ls)).length + 1 = ls.length := ht
  exact nub_all (by omega) (List.mem_map.mpr ⟨x, hx, rfl⟩) (List.mem_map.mpr ⟨y, hy, rfl⟩)
/-! ### a lot stays tight -/
theorem laidT_sub : ∀ {ts : List (Int × Int)} {ws ws' : List V}, ws'.length = ws.length → (∀ i : Nat, ws'[i]? = some .non → ws[i]? = some .non) → (laidT ts ws).Sublist (laidT ts ws')
  | [], _, _, _, _ => by
    unfold laidT
    rw [List.zip_nil_left]
    exact List.nil_sublist _
  | t :: ts, [], _, _, _ => by
    unfold laidT
    rw [List.zip_nil_right]
    exact List.nil_sublist _
  | t :: ts, x :: ws, [], hl, _ => by cases hl
  | t :: ts, x :: ws, y :: ws', hl, h => by
    rw [laidT_cons, laidT_cons]
    refine List.Sublist.append ?_ (laidT_sub (Nat.succ.inj hl) fun i => h (i + 1))
    by_cases e : y = V.non
    · have h0 := h 0
      have : x = V.non := Option.some.inj (h0 (by rw [e]; rfl))
      rw [if_pos this]
      exact List.nil_sublist _
    · rw [if_neg e]
      split
      · exact List.nil_sublist _
      · exact .refl _
theorem TightL.stay {ts : List (Int × Int)} {n k : Int} {ws ws' : List V} {ls : List Int} (h : TightL ts n k ws ls) (hk : 0 ≤ k) (hL : LayK ts k ws) (hL' : LayK ts k ws') (hs : ∀ i : Nat, ws'[i]? = some .non → ws[i]? = some .non) : TightL ts n k ws' ls := by
  refine ⟨h.lot, fun f f0 f1 => ?_⟩
  have h1 := (tight_iff hL hk h.lot.nd h.lot.ne).mpr fun f f0 f1 => by have := h.tight f f0 f1; omega
  have hsub : inside ls (laidT ts ws) ≤ inside ls (laidT ts ws') := ((laidT_sub (hL'.len.trans hL.len.symm) hs).filter _).length_le
  have hmost := (sum_most (s := (ls.length : Int) - 1) (g := fun f => (inside ls (layerOf ts ws' f) : Int)) (l := upTo k) fun f _ => by
    have := inside_forest (hL'.tree f) h.lot.nd h.lot.ne
    show (inside ls (layerOf ts ws' f) : Int) ≤ _
    omega).1
  rw [← inside_laid ls hL'.len hL'.each, upTo_length, show ((k.toNat : Nat) : Int) = k by omega] at hmost
  have := (tight_iff hL' hk h.lot.nd h.lot.ne).mp (by omega) f f0 f1
  omega
theorem Full_.tight {ts : List (Int × Int)} {n k : Int} {ws : List V} {tie : Nat} {ls R : List Int} (hL : LayK ts k ws) (h : Full_ ts n k ws tie ls R) : TightL ts n k ws ls ∧ (tk ts (tie : Int)).1 ∈ ls ∧ (tk ts (tie : Int)).2 ∈ ls := by
  obtain ⟨h1, h2, h3, h4, _⟩ := h
  refine ⟨⟨h1, fun f f0 f1 => h3.tree hL.len h2 (fun z => by rw [z] at h4; cases h4) hL.tree f0 f1⟩, (h2.mem _).mpr ⟨_, h4, .inl rfl⟩, (h2.mem _).mpr ⟨_, h4, .inr rfl⟩⟩
end FF
namespace FF
open PySem PySem.Spec PyProof.Rows L2
variable [LT]
/-! ### len of a dict, and layings that grow with lots noted -/
/-- None or a lot -/
def LoV (H : Hp) (x : V) (o : Option (List Int)) : Prop := match o with
  | none => x = .non
  | some ls => ∃ q, x = .ref q ∧ H q = some (.tup (ls.map V.int))
def LoP (H : Hp) (xs : List V) (lo : List (Option (List Int))) : Prop := Paired (LoV H) xs lo
theorem LoP.mono {H H' : Hp} {xs : List V} {lo : List (Option (List Int))} (h : LoP H xs lo) (k : ∀ q xs, H q = some (.tup xs) → H' q = some (.tup xs)) : LoP H' xs lo := L2.Paired.mapP h fun x o z => by
  cases o with
  | none => exact z
  | some ls =>
    obtain ⟨q, e, z⟩ := z
    exact ⟨q, e, k q _ z⟩
theorem LoP.ke {H H' : Hp} {xs : List V} {lo : List (Option (List Int))} (h : LoP H xs lo) (k : Ke H H') : LoP H' xs lo := h.mono fun _ _ => k.tup
theorem LoP.length {H : Hp} {xs : List V} {lo : List (Option (List Int))} (h : LoP H xs lo) : xs.length = lo.length := Paired.length h
theorem LoP.set {H : Hp} {x : V} {o : Option (List Int)} (hx : LoV H x o) : ∀ {xs : List V} {lo : List (Option (List Int))} (i : Nat), LoP H xs lo → LoP H (xs.set i x) (lo.set i o)
  | _, _, _, .nil => .nil
  | _, _, 0, .cons _ t => .cons hx t
  | _, _, i + 1, .cons h t => .cons h (LoP.set hx i t)
theorem LoP.get {H : Hp} : ∀ {xs : List V} {lo : List (Option (List Int))} {i : Nat} {x : V}, LoP H xs lo → xs[i]? = some x → ∃ o, lo[i]? = some o ∧ LoV H x o
  | _, _, 0, _, .cons h _, e => by cases e; exact ⟨_, rfl, h⟩
  | _, _, i + 1, _, .cons _ t, e => LoP.get (i := i) t e
end FF
namespace FF
open PySem PySem.Spec PyProof.Rows L2
variable [LT]
/-! ### no laying lays more than the bound of a parting -/
end FF
namespace FF
open PySem PySem.Spec PyProof.Rows L2
variable [LT]
/-! ### min of a list -/
/-! ### all partings -/
end FF
namespace FF
open PySem PySem.Spec PyProof.Rows L2
variable [LT]
/-! ### as few forests as do -/
theorem LoV.mono {H H' : Hp} {x : V} {o : Option (List Int)} (h : LoV H x o) (k : ∀ q xs, H q = some (.tup xs) → H' q = some (.tup xs)) : LoV H' x o := by
  cases o with
  | none => exact h
  | some ls =>
    obtain ⟨q, e, z⟩ := h
    exact ⟨q, e, k q _ z⟩
end FF
namespace FF
open PySem PySem.Spec PyProof.Rows L2
variable [LT]
/-! ### an empty tuple times an int -/
section
variable {X : Cx}
end
/-! ### whether no lot is full, by all lots -/
def canF (n : Nat) (ts : List (Int × Int)) (k : Int) : Bool := ((lotsF n).filter fun l => !l.isEmpty).all fun l => decide ((inside l ts : Int) ≤ k * ((l.length : Int) - 1))
theorem canF_iff {n : Nat} {ts : List (Int × Int)} {k : Int} : canF n ts k = true ↔ ∀ ls, Lot (n : Int) ls → (inside ls ts : Int) ≤ k * ((ls.length : Int) - 1) := by
  unfold canF
  rw [List.all_eq_true]
  constructor
  · intro h ls hL
    refine of_decide_eq_true (h ls (List.mem_filter.mpr ⟨lotsF_all n hL.up hL.ok, ?_⟩))
    cases ls with
    | nil => exact absurd rfl hL.ne
    | cons _ _ => rfl
  · intro h l hl
    obtain ⟨h1, h2⟩ := List.mem_filter.mp hl
    obtain ⟨o1, o2, _⟩ := lotsF_ok n l h1
    exact decide_eq_true (h l ⟨fun z => (by rw [z] at h2; cases h2), o1, o2⟩)
end FF
namespace FF
open PySem PySem.Spec PyProof.Rows L2
variable [LT]
/-! ### webs of which the fewest forests are known -/
theorem inside_perm {ts us : List (Int × Int)} (h : ts.Perm us) (ls : List Int) : inside ls ts = inside ls us := (h.filter _).length_eq
end FF
namespace FF
open PySem PySem.Spec PyProof.Rows L2
variable [LT]
/-! ### [.. for .. in .. for .. in ..] -/
section
variable {X : Cx}
end
end FF
namespace FF
open PySem PySem.Spec PyProof.Rows L2
variable [LT]
/-! ### xs.remove(y): data of any depth -/
section
variable {X : Cx}
open PyProof
end
/-! ### ties at a point -/
def atP (x : Int) (t : Int × Int) : Bool := decide (t.1 = x) || decide (t.2 = x)
end FF
namespace FF
open PySem PySem.Spec PyProof.Rows L2
variable [LT]
/-! ### defs that raise; try .. except; isinstance of what was caught -/
theorem DefAt.okE {P : Program} {w : World} {K : PySem.W.Frag} {mg : Str → Option Value} {base : Heap} {x : Str} {st : Stmt} {f : Addr} {fd : FuncData} {N ps : List Str} {k : Nat} {sp : Sp} (D : DefAt K mg x st ps f fd) (S : FnScope N ps (defScope st)) (len : ∀ vs H Q E, sp vs H Q E → vs.length = ps.length)
    (hbody : ∀ (A : Around) (outer : List Env) (s : Shared) (H : Hp) (vs : List V) (Q : VK) (E : XK), Room k (A.deeper (envOfC x (defScope st) s.heap.objs.size f fd.code)) → sp vs H Q E →
      ∃ t, PSs (cxOf (L2.CX P w) P w K mg base N x (defScope st) f fd.code A outer s H E) (defBody st) t ∧ t { nx := fun _ H' => Q .non H', rt := Q } (start N vs) H) : FnOk P w K mg base (L2.CX P w) (k + 1) f fd ps sp := by
  obtain ⟨oc, od, dV, kV, doc, pm, an, cdv, ct, osl, rfl, lk, hcd, _, _⟩ := D.F.ex
  exact fn_of lk hcd S len hbody
/-! #### what is told of the classes -/
inductive Xf where
  | glo (x : Str) | exc (x : Str) | ec (x : Str) | exm (x y : Str) (b : Bool) | kit (x y : Str) (b : Bool) | kitT (x : Str) (t : String) (b : Bool)
  deriving DecidableEq
def ecB (K : PySem.W.Frag) (D : Addr) : Bool :=
  He.eqO (PySem.W.findIn K (.ref D) "__getattribute__") (some (some (.builtin "BaseException.__getattribute__"))) && (He.eqO (PySem.W.findIn K (.ref D) "__getattr__") (some none) &&
  (decide (PySem.W.subIn K (.ref D) (.type "BaseException") = some true) && (PySem.W.hasDictIn K D && (He.eqO (PySem.W.findIn K (.ref D) "__class__") (some (some (.builtin "object.__class__"))) &&
  (He.eqO (PySem.W.specialIn K (.builtin "object.__class__") "__get__") (some (some (.builtin "getset_descriptor.__get__"))) && (decide (PySem.W.takesIn K (.builtin "object.__class__") = some true) && decide (PySem.W.mroIn K D (.type "object") = some true)))))))
def Xf.ok (K : PySem.W.Frag) : Xf → Bool
  | .glo x => (He.Fa.glo x).ok K
  | .exc x => (He.Fa.exc x).ok K
  | .ec x => ecB K (He.ga K x)
  | .exm x y b => (He.Fa.exm x y b).ok K
  | .kit x y b => decide (PySem.W.kitOne K (.ref (He.ga K x)) (.ref (He.ga K y)) = some b)
  | .kitT x t b => decide (PySem.W.kitOne K (.ref (He.ga K x)) (.type t) = some b)
theorem ec_ok {K : PySem.W.Frag} {x : Str} (c : (Xf.ec x).ok K = true) : ExcC K (He.ga K x) := by
  obtain ⟨c1, c⟩ := He.ba c
  obtain ⟨c2, c⟩ := He.ba c
  obtain ⟨c3, c⟩ := He.ba c
  obtain ⟨c4, c⟩ := He.ba c
  obtain ⟨c5, c⟩ := He.ba c
  obtain ⟨c6, c⟩ := He.ba c
  obtain ⟨c7, c8⟩ := He.ba c
  exact ⟨He.eqO_ok c1, He.eqO_ok c2, of_decide_eq_true c3, c4, He.eqO_ok c5, He.eqO_ok c6, of_decide_eq_true c7, of_decide_eq_true c8⟩
/-- the classes' facts -/
structure Xcs (xfs : List Xf) (K : PySem.W.Frag) (mg : Str → Option Value) : Prop where
  ok : ∀ f ∈ xfs, f.ok K = true
  g : ∀ x, Xf.glo x ∈ xfs → mg x = some (.ref (He.ga K x))
section
variable {xfs : List Xf} {K : PySem.W.Frag} {mg : Str → Option Value} (c : Xcs xfs K mg)
include c
theorem Xcs.exm {x y : Str} {b : Bool} (h : Xf.exm x y b ∈ xfs) : PySem.W.exmOne K (.ref (He.ga K x)) (.ref (He.ga K y)) = some b := He.exm_ok (c.ok _ h)
theorem Xcs.kit {x y : Str} {b : Bool} (h : Xf.kit x y b ∈ xfs) : PySem.W.kitOne K (.ref (He.ga K x)) (.ref (He.ga K y)) = some b := of_decide_eq_true (c.ok _ h)
theorem Xcs.kitT {x : Str} {t : String} {b : Bool} (h : Xf.kitT x t b ∈ xfs) : PySem.W.kitOne K (.ref (He.ga K x)) (.type t) = some b := of_decide_eq_true (c.ok _ h)
theorem Xcs.ec {x : Str} (h : Xf.ec x ∈ xfs) : ExcC K (He.ga K x) := ec_ok (c.ok _ h)
end
/-! #### what was caught, frozen -/
section
variable {X : Cx}
end
/-! #### try: .. except x as n: suite; what was caught stays, frozen -/
section
variable {X : Cx} {x n : Str} {c : Value} {i : Nat} {body suite : List Stmt} {b0 : Stmt} {np pos pos' : Pos} {tb : WX → TS} {ts : Addr → Value → Option Addr → TS} {Wo : WX}
end
end FF
namespace FF
open PySem PySem.Spec PyProof.Rows L2
variable [LT]
/-! ### drawn partings -/
end FF
namespace FF
open PySem PySem.Spec PyProof.Rows L2
variable [LT]
/-! ### webs drawn together -/
theorem rise_nd {ls : List Int} (h : ls.Pairwise (· < ·)) : ls.Nodup := h.imp fun z => by omega
/-! ### lots that are walked; the data of webs -/
theorem Lot.le {n : Int} {ls : List Int} (h : Lot n ls) : (ls.length : Int) ≤ n := by
  obtain ⟨x, hx⟩ := List.exists_mem_of_ne_nil _ h.ne
  have := h.ok x hx
  have := nd_le (rise_nd h.up) (m := upTo n) fun y hy => upTo_mem.mpr (h.ok y hy)
  rw [upTo_length] at this
  omega
theorem Lot.tie {n a b : Int} (h0 : 0 ≤ a) (h1 : a < b) (h2 : b < n) : Lot n [a, b] := ⟨List.cons_ne_nil _ _, .cons (fun y hy => by rw [List.mem_singleton.mp hy]; exact h1) (List.pairwise_singleton _ _), fun x hx => by
  rcases List.mem_cons.mp hx with rfl | hx
  · exact ⟨h0, by omega⟩
  · rw [List.mem_singleton.mp hx]
    exact ⟨by omega, h2⟩⟩
def dWeb (n : Int) (ts : List (Int × Int)) : PyData := .tuple [.int n, dE ts]
theorem Web.dp {K : PySem.W.Frag} {H : Hp} {v : V} {n : Int} {ts : List (Int × Int)} (W : Web H v n ts) : Dp K H v (dWeb n ts) := by
  obtain ⟨t, u, rs, rfl, h1, h2, h3⟩ := W
  exact .tup (sqT_of h1) (.cons (.int _) (.cons (.tup (sqT_of h2) h3.dpA) .nil))
theorem Lot.head {n : Int} {ls : List Int} (h : Lot n ls) : ls.headD 0 ∈ ls := by
  cases e : ls with
  | nil => exact absurd e h.ne
  | cons x r => exact List.mem_cons_self
end FF
namespace FF
open PySem PySem.Spec PyProof.Rows L2
variable [LT]
/-! ### sorted(tuple of ints) -/
section
variable {prog : Program} {w : World} {A : Around} {E : Value → Shared → Prop} {s : Shared}
end
end FF
namespace FF
open PySem PySem.Spec PyProof.Rows L2
variable [LT]
/-! ### glued layings -/
end FF
namespace FF
open PySem PySem.Spec PyProof.Rows L2
variable [LT]
/-! ### lots of the inner web, in the web -/
end FF
namespace FF
open PySem PySem.Spec PyProof.Rows L2
variable [LT]
/-! ### things that are looked at as webs -/
def tieO (n : Int) : Option (List V) → Bool
  | some [x, .int j] => isNum (.int j) 0 (n - 1) && isNum x 0 (j - 1)
  | _ => false
inductive WT (H : Hp) : V → Bool → Prop
  | no {v : V} {nm : String} (h : TyN H v nm) (hn : nm ≠ "tuple") : WT H v false
  | len {a : Addr} {xs : List V} (h : H a = some (.tup xs)) (hl : xs.length ≠ 2) : WT H (.ref a) false
  | pts {a : Addr} {x y : V} {nm : String} (h : H a = some (.tup [x, y])) (hx : TyN H x nm) (hb : isNum x 1 40 = false) : WT H (.ref a) false
  | tys {a : Addr} {n : Int} {y : V} {nm : String} (h : H a = some (.tup [.int n, y])) (h0 : 1 ≤ n) (h1 : n ≤ 40) (hy : TyN H y nm) (hn : nm ≠ "tuple") : WT H (.ref a) false
  | many {a u : Addr} {n : Int} {rs : List V} (h : H a = some (.tup [.int n, .ref u])) (h0 : 1 ≤ n) (h1 : n ≤ 40) (hu : H u = some (.tup rs)) (hl : 120 < rs.length) : WT H (.ref a) false
  | ties {a u : Addr} {n : Int} {rs : List V} {os : List (Option (List V))} (h : H a = some (.tup [.int n, .ref u])) (h0 : 1 ≤ n) (h1 : n ≤ 40) (hu : H u = some (.tup rs)) (hl : rs.length ≤ 120) (hr : Paired (Tpl H) rs os) : WT H (.ref a) (os.all (tieO n))
theorem Ties.tpl {H : Hp} : ∀ {rs : List V} {ts : List (Int × Int)}, Ties H rs ts → Paired (Tpl H) rs (ts.map fun t => some [V.int t.1, .int t.2])
  | _, _, .nil => .nil
  | _, _, .cons ⟨q, e, h⟩ t => by
    subst e
    exact .cons (.yes h fun x hx => by
      rcases List.mem_cons.mp hx with rfl | hx
      · exact ⟨_, .int _⟩
      · rw [List.mem_singleton.mp hx]
        exact ⟨_, .int _⟩) (Ties.tpl t)
theorem tieO_ok {n : Int} {t : Int × Int} : tieO n (some [V.int t.1, .int t.2]) = true ↔ 0 ≤ t.1 ∧ t.1 < t.2 ∧ t.2 < n := by
  show (((decide (0 ≤ t.2) && decide (t.2 ≤ n - 1)) && (decide (0 ≤ t.1) && decide (t.1 ≤ t.2 - 1))) = true) ↔ _
  rw [Bool.and_eq_true, Bool.and_eq_true, Bool.and_eq_true, decide_eq_true_eq, decide_eq_true_eq, decide_eq_true_eq, decide_eq_true_eq]
  omega
theorem Web.wt {H : Hp} {v : V} {n : Int} {ts : List (Int × Int)} (W : Web H v n ts) (ok : TOk n ts) (h0 : 1 ≤ n) (h1 : n ≤ 40) (hl : ts.length ≤ 120) : WT H v true := by
  obtain ⟨t, u, rs, rfl, h2, h3, h4⟩ := W
  have e : ((ts.map fun t => some [V.int t.1, .int t.2]).all (tieO n)) = true := List.all_eq_true.mpr fun o ho => by
    obtain ⟨t, ht, rfl⟩ := List.mem_map.mp ho
    exact tieO_ok.mpr (ok t ht)
  rw [← e]
  exact .ties h2 h0 h1 h3 (by rw [h4.length]; exact hl) h4.tpl
theorem WT.ke {H H' : Hp} {v : V} {b : Bool} (h : WT H v b) (k : Ke H H') : WT H' v b := by
  cases h with
  | no h hn => exact .no (h.ke k) hn
  | len h hl => exact .len (k.tup h) hl
  | pts h hx hb => exact .pts (k.tup h) (hx.ke k) hb
  | tys h h0 h1 hy hn => exact .tys (k.tup h) h0 h1 (hy.ke k) hn
  | many h h0 h1 hu hl => exact .many (k.tup h) h0 h1 (k.tup hu) hl
  | ties h h0 h1 hu hl hr => exact .ties (k.tup h) h0 h1 (k.tup hu) hl (Paired.mapP hr fun _ _ z => z.ke k)
end FF
namespace FF
open PySem PySem.Spec PyProof.Rows L2
variable [LT]
/-! ### rows of things that are not ties, and of things that are no webs -/
theorem WT.mono {H H' : Hp} {v : V} {b : Bool} (h : WT H v b) (k : ∀ q xs, H q = some (.tup xs) → H' q = some (.tup xs)) (y : ∀ v n, TyN H v n → TyN H' v n) : WT H' v b := by
  cases h with
  | no h hn => exact .no (y _ _ h) hn
  | len h hl => exact .len (k _ _ h) hl
  | pts h hx hb => exact .pts (k _ _ h) (y _ _ hx) hb
  | tys h h0 h1 hy hn => exact .tys (k _ _ h) h0 h1 (y _ _ hy) hn
  | many h h0 h1 hu hl => exact .many (k _ _ h) h0 h1 (k _ _ hu) hl
  | ties h h0 h1 hu hl hr => exact .ties (k _ _ h) h0 h1 (k _ _ hu) hl (Paired.mapP hr fun _ _ z => z.mono k y)
/-- points that are none, with any ties -/
structure PTs (H : Hp) (xs : List V) : Prop where
  all : ∀ x ∈ xs, ∃ nm, TyN H x nm ∧ isNum x 1 40 = false
theorem PTs.nil {H : Hp} : PTs H [] := ⟨fun _ z => nomatch z⟩
theorem PTs.cons {H : Hp} {x : V} {nm : String} {xs : List V} (h : TyN H x nm) (e : isNum x 1 40 = false) (t : PTs H xs) : PTs H (x :: xs) := ⟨fun y hy => by
  rcases List.mem_cons.mp hy with rfl | hy
  · exact ⟨nm, h, e⟩
  · exact t.all y hy⟩
theorem PTs.ke {H H' : Hp} {xs : List V} (h : PTs H xs) (k : Ke H H') : PTs H' xs := ⟨fun x hx => by
  obtain ⟨o, t, e⟩ := h.all x hx
  exact ⟨o, t.ke k, e⟩⟩
theorem PTs.sub {H : Hp} {xs ys : List V} (h : PTs H xs) (k : ∀ y ∈ ys, y ∈ xs) : PTs H ys := ⟨fun y hy => h.all y (k y hy)⟩
theorem PTs.new {H : Hp} {p : Addr} {o : HO} {xs : List V} (h : PTs H xs) (k : H p = none) : PTs (upd H p o) xs := h.ke (Ke.new k)
theorem PTs.wt {H H' : Hp} {xs : List V} {x y : V} {p : Addr} (h : PTs H xs) (hx : x ∈ xs) (k : Ke H H') (hp : H' p = some (.tup [x, y])) : WT H' (.ref p) false := by
  obtain ⟨nm, t, e⟩ := h.all x hx
  exact .pts hp (t.ke k) e
end FF
namespace FF
open PySem PySem.Spec PyProof.Rows L2
variable [LT]
/-! ### l != [] by lengths alone -/
def rNeL0 (K : PySem.W.Frag) : R2 := fun x y H Q => ∃ a b xs, x = .ref a ∧ y = .ref b ∧ SqL K H a xs ∧ SqL K H b [] ∧ Q (.bl (!xs.isEmpty)) H
section
variable {X : Cx}
theorem op_neL0 {K : PySem.W.Frag} (hu : X.A.units + 64 < cLine) (hk : X.K = K := by rfl) : OpR X (compareOp .NotEq) (rNeL0 K) := by
  subst hk
  intro pins s σ H x y v u Q I rx ry h
  obtain ⟨a, b, xs, rfl, rfl, ha, hb, q⟩ := h
  cases (show v = Value.ref a from rx)
  cases (show u = Value.ref b from ry)
  obtain ⟨us, r1, p1, _⟩ := I.list ha
  obtain ⟨ws, r2, p2, _⟩ := I.list hb
  cases r2
  have hu' : X.A.units < cLine := by omega
  cases r1 with
  | nil =>
    refine (SeqAt.RcNeAt.lists (e := fun _ => true) p1.isList p2.isList rfl hu' (fun j h1 h2 => absurd h1 (Nat.not_lt_zero j))) _ _ _ _ ?_
    exact ⟨.bl _, H, I, rfl, q⟩
  | cons h t =>
    refine (SeqAt.RcNeAt.lists_lengths p1.isList p2.isList (by simp) hu') _ _ _ _ ?_
    exact ⟨.bl _, H, I, rfl, q⟩
end
/-! ### str(x) of an int or None -/
section
variable {X : Cx}
end
end FF
namespace FF
open PySem PySem.Spec PyProof.Rows L2
variable [LT]
/-! ### how many ties lie between the parts: paths, rounds, full webs -/
/-! ### the most trees of webs that are known -/
end FF
namespace FF
open PySem PySem.Spec PyProof.Rows L2
variable [LT]
/-! ### a class by its name, within a suite too -/
end FF
namespace FF
open PySem PySem.Spec PyProof.Rows L2
variable [LT]
/-! ### tuples that are known to the object: displays and + -/
/-- kinds of things, tuples known to the object among them -/
inductive TyF (H : Hp) : V → String → Prop where
  | non : TyF H .non "NoneType"
  | bl (b : Bool) : TyF H (.bl b) "bool"
  | int (i : Int) : TyF H (.int i) "int"
  | str (x : Str) : TyF H (.str x) "str"
  | lst {a : Addr} {xs : List V} (h : H a = some (.lst xs)) : TyF H (.ref a) "list"
  | tup {a : Addr} {xs : List V} (h : H a = some (.tup xs)) : TyF H (.ref a) "tuple"
  | dic {a : Addr} {kvs : List (Key × V)} (h : H a = some (.dK kvs)) : TyF H (.ref a) "dict"
  | tf {a : Addr} {xs : List V} (h : TF H a xs) : TyF H (.ref a) "tuple"
theorem TyN.f {H : Hp} {v : V} {n : String} (h : TyN H v n) : TyF H v n := by
  cases h with
  | non => exact .non
  | bl b => exact .bl b
  | int i => exact .int i
  | str x => exact .str x
  | lst h => exact .lst h
  | tup h => exact .tup h
  | dic h => exact .dic h
theorem TyF.split {H : Hp} {v : V} {n : String} (h : TyF H v n) : TyN H v n ∨ (n = "tuple" ∧ ∃ a xs, v = .ref a ∧ TF H a xs) := by
  cases h with
  | non => exact .inl .non
  | bl b => exact .inl (.bl b)
  | int i => exact .inl (.int i)
  | str x => exact .inl (.str x)
  | lst h => exact .inl (.lst h)
  | tup h => exact .inl (.tup h)
  | dic h => exact .inl (.dic h)
  | tf h => exact .inr ⟨rfl, _, _, rfl, h⟩
theorem TyF.x {K : PySem.W.Frag} {H : Hp} {v : V} {n : String} (h : TyF H v n) : TyX K H v (.type n) := by
  rcases h.split with h | ⟨rfl, a, xs, rfl, o, ht, _⟩
  · exact h.x
  · exact .fTuple ht
theorem TyF.isi {K : PySem.W.Frag} {H : Hp} {v : V} {n : String} (h : TyF H v n) {c : String} (hc : c = "int" ∨ c = "bool" ∨ c = "tuple" ∨ c = "list") : PySem.W.kitOne K (.type n) (.type c) = some (isiB n c) := by
  rcases hc with rfl | rfl | rfl | rfl <;> cases h <;> exact kit_ty (by decide +kernel)
theorem TyF.ke {H H' : Hp} {v : V} {n : String} (h : TyF H v n) (k : Ke H H') : TyF H' v n := by
  rcases h.split with h | ⟨rfl, a, xs, rfl, ht⟩
  · exact (h.ke k).f
  · exact .tf (ht.ke k)
theorem TyF.put {H : Hp} {p : Addr} {xs ys : List V} {v : V} {n : String} (h : TyF H v n) (k : H p = some (.lst xs)) : TyF (upd H p (.lst ys)) v n := by
  rcases h.split with h | ⟨rfl, a, zs, rfl, ht⟩
  · exact (h.put k).f
  · exact .tf (ht.put k)
theorem TyF.dk {H H' : Hp} {p : Addr} {v : V} {n : String} (h : TyF H v n) (k : Dk p H H') (d : Deck H p) : TyF H' v n := by
  rcases h.split with h | ⟨rfl, a, zs, rfl, ht⟩
  · exact (h.dk k d).f
  · exact .tf (ht.dk k d)
inductive ThG (K : PySem.W.Frag) (H : Hp) : V → Option (List V) → Prop where
  | no {v : V} {nm : String} (h : TyF H v nm) (hn : nm ≠ "tuple") : ThG K H v none
  | yes {a : Addr} {xs : List V} (h : SqT K H a xs) (ht : TyX K H (.ref a) (.type "tuple")) (hx : ∀ x ∈ xs, ∃ n, TyF H x n) : ThG K H (.ref a) (some xs)
theorem Tpl.g {K : PySem.W.Frag} {H : Hp} {v : V} {o : Option (List V)} (h : Tpl H v o) : ThG K H v o := by
  cases h with
  | no h hn => exact .no h.f hn
  | yes h hx => exact .yes (sqT_of h) (TyF.x (.tup h)) fun x hm => (hx x hm).imp fun _ z => z.f
end FF
namespace FF
open PySem PySem.Spec PyProof.Rows L2
variable [LT]
/-! ### hung from a told root -/
end FF
namespace FF
open PySem PySem.Spec PyProof.Rows L2
variable [LT]
/-! ### points that one comes to along ways, and ties turned -/
section
variable {X : Cx} {K : PySem.W.Frag}
def rIdxT (K : PySem.W.Frag) : V → List V → Hp → VK → Prop := fun x xs H Q => ∃ (p : Addr) (ns : List Int) (k : Int) (j : Nat), x = .ref p ∧ xs = [.int k] ∧ SqT K H p (ns.map V.int) ∧ ns[j]? = some k ∧ (∀ m, m < j → ns[m]? ≠ some k) ∧ Q (.int (j : Nat)) H
theorem mt_tindex (h : X.K = K := by rfl) : MtR X "tuple.index" (rIdxT K) := by
  subst h
  intro pins s σ H x xs v us Q I rx rxs h
  obtain ⟨p, ns, k, j, rfl, rfl, hs, hj, hno, q⟩ := h
  cases rx
  obtain ⟨u, rfl, ru⟩ := rxs.one
  obtain ⟨t, rfl⟩ := ru
  obtain ⟨its, rv, ⟨⟨cls, dd, data, sl⟩, ho, hc, n, hd⟩, hlen⟩ := I.tuple hs
  simp only at hc hd
  subst hc hd
  have hi := ints_of_vals rv
  have hl : its.length = ns.length := by rw [← rv.length, List.length_map]
  have jl := (List.getElem?_eq_some_iff.mp hj).1
  have at' : ∀ (m : Nat) (hm : m < its.toArray.size), ∃ y t', ns[m]? = some y ∧ its.toArray[m] = Value.int y t' := fun m hm => by
    have hm' : m < ns.length := by rw [← hl]; simpa using hm
    obtain ⟨w, hw, t', hw'⟩ := rv.get (i := m) (x := .int ns[m]) (by simp [hm'])
    refine ⟨ns[m], t', List.getElem?_eq_getElem hm', ?_⟩
    have e := (List.getElem?_eq_some_iff.mp hw).2
    rw [← hw', ← e]
    simp
  refine call_meets PySem.F.slot_tuple_index ⟨_, ho, rfl⟩ PySem.F.entry_tuple_index (PySem.F.args_tuple_index_2 _ _)
    (TI.tuple_indexAt p its.toArray n dd sl (.int k t) (eqk k) j (by simp; omega) ?_ ?_) ⟨ho, fun y hy => (eqk_gives hi y (by simpa using hy)).at _ _, ⟨.int (j : Nat), H, I.tok _, ⟨_, rfl⟩, q⟩⟩
  · obtain ⟨y, t', h1, h2⟩ := at' j (by simp; omega)
    rw [hj] at h1
    cases h1
    rw [h2]
    show eqk k (Value.int k t') = true
    unfold eqk
    simp
  · intro m hm hmj
    obtain ⟨y, t', h1, h2⟩ := at' m hm
    rw [h2]
    have : ¬ y = k := fun e => hno m hmj (e ▸ h1)
    show eqk k (Value.int y t') = false
    unfold eqk
    simpa using this
end
/-! ### turned -/
/-! ### as few outs as can be -/
theorem LoV.ke {H H' : Hp} {x : V} {o : Option (List Int)} (h : LoV H x o) (k : Ke H H') : LoV H' x o := h.mono fun _ _ z => k.tup z
theorem TF.ty {K : PySem.W.Frag} {H : Hp} {a : Addr} {xs : List V} (h : TF H a xs) : TyX K H (.ref a) (.type "tuple") := by
  obtain ⟨o, e, _⟩ := h
  exact .fTuple e
end FF
namespace FF
open PySem PySem.Spec PyProof.Rows L2
variable [LT]
/-! ### layers split into forests -/
section
variable {n d : Int} {ts : List (Int × Int)} {ls : List Int}
end
section
variable {n : Int} {ts : List (Int × Int)} {ls : List Int}
end
end FF
namespace FF
open PySem PySem.Spec PyProof.Rows L2
variable [LT]
/-! ### two points tied many times -/
end FF
namespace FF
open PySem PySem.Spec PyProof.Rows L2
variable [LT]
/-! ### a list cut where a truth tells the place -/
section
variable {prog : Program} {w : World} {A : Around} {E : Value → Shared → Prop} {s : Shared}
end
section
variable {prog : Program} {w : World} {A : Around} {E : Value → Shared → Prop} {s : Shared}
end
section
variable {X : Cx} {K : PySem.W.Frag} {e lo : Expr} {te tl : TE} {pos p2 : Pos}
end
end FF
namespace FF
open PySem PySem.Spec PyProof.Rows L2
variable [LT]
/-! ### a ring's layer split -/
end FF
namespace FF
open PySem PySem.Spec PyProof.Rows L2
variable [LT]
/-! ### the set of a tuple of ties -/
section
variable {P : Program} {w : World} {A : Around} {E : Value → Shared → Prop} {s : Shared}
end
section
variable {X : Cx}
end
end FF
namespace FF
open PySem PySem.Spec PyProof.Rows L2
variable [LT]
/-! ### the least outs beside the least forests -/
end FF
namespace FF
open PySem PySem.Spec PyProof.Rows L2
variable [LT]
/-! ### rooms: pairs of points that a lot holds, and rows for the others -/
def rowP (n a : Int) : List (Int × Int) := (upTo (n - (a + 1))).map fun i => (a, a + 1 + i)
def pairsL (n : Int) : List (Int × Int) := (upTo n).flatMap (rowP n)
def heldB (lots : List (List Int)) (a b : Int) : Bool := lots.any fun ls => decide (a ∈ ls) && decide (b ∈ ls)
end FF
namespace FF
open PySem PySem.Spec PyProof.Rows L2
variable [LT]
/-! ### what a lot that holds a pair, or a row for it, tells of the web with that tie -/
theorem inside_snoc {ls : List Int} {ts : List (Int × Int)} {t : Int × Int} (h1 : t.1 ∈ ls) (h2 : t.2 ∈ ls) : inside ls (ts ++ [t]) = inside ls ts + 1 := by
  rw [inside_app, inside_cons, decide_eq_true h1, decide_eq_true h2]
  rfl
end FF
namespace FF
open PySem PySem.Spec PyProof.Rows L2
variable [LT]
/-! ### what rooms_of tells -/
end FF
namespace FF
open PySem PySem.Spec PyProof.Rows L2
variable [LT]
/-! ### rows picked out of what rooms_of tells -/
end FF
namespace FF
open PySem PySem.Spec PyProof.Rows L2
variable [LT]
/-! ### (x,) * k known to the object; t.count(None) -/
section
variable {X : Cx}
end
end FF
namespace FF
open PySem PySem.Spec PyProof.Rows L2
variable [LT]
/-! ### lots within lots -/
theorem eqv_itups (as bs : List Int) : PyData.eqv (.tuple (as.map PyData.int)) (.tuple (bs.map PyData.int)) = decide (as = bs) := by
  rw [PyData.eqv]
  exact eqvAll_ints as bs
end FF
namespace FF
open PySem PySem.Spec PyProof.Rows L2
variable [LT]
/-! ### the sorted list of all pairs -/
end FF
namespace FF
open PySem PySem.Spec PyProof.Rows L2
variable [LT]
/-! ### sorted of a list of tuples of ints, any length -/
/-! ### the outs of all ways -/
end FF
namespace FF
open PySem PySem.Spec PyProof.Rows L2
variable [LT]
/-! ### methods of the text's own classes -/
section
variable {P : Program} {w : World} {K : PySem.W.Frag} {mg : Str → Option Value} {base : Heap} {m qual : Str} {st : Stmt} {f C : Addr} {fd : FuncData} {N ps : List Str} {k : Nat} {sp : Sp}
end
/-! a method called within a try -/
section
variable {X : Cx} {CX : CXT} {k : Nat} {f C : Addr} {fd : FuncData} {ps : List Str} {sp : Sp} {E : L2.St → XK} {m : Str} {pos apos : Pos} {e o : Expr} {es : List Expr} {ta : TE} {t : TA}
end
end FF
namespace FF
open PySem PySem.Spec PyProof.Rows L2
variable [LT]
/-! ### a desk's fields -/
section
variable {a b c d e v : V}
end
theorem Kx.web {S : Addr → Prop} {H H' : Hp} {v : V} {n : Int} {ts : List (Int × Int)} (k : Kx S H H') (hs : ∀ b xs, H b = some (.tup xs) → ¬ S b) (W : Web H v n ts) : Web H' v n ts := by
  obtain ⟨tw, wu, rs, rfl, h1, h2, h3⟩ := W
  exact ⟨tw, wu, rs, rfl, k.tup h1 (hs _ _ h1), k.tup h2 (hs _ _ h2), h3.mono fun q xs z => k.tup z (hs _ _ z)⟩
/-! ### what a desk is told, and what it tells -/
/-! ### one forest fewer -/
end FF
namespace FF
open PySem PySem.Spec PyProof.Rows L2
variable [LT]
/-! ### walks within an except suite -/
section
open PySem PySem.Calls HotX
variable {pr : Program} {wo : World} {A : Around} {E : Value → Shared → Prop} {s : Shared}
end
section
open PySem PySem.Calls HotX L2H
end
section
open PySem PySem.Calls HotX L2H
end
section
open HotX L2H
end
section
open HotX L2H
end
end FF
namespace FF
open PySem PySem.Spec PyProof.Rows L2
variable [LT]
/-! ### min of a tuple of ints -/
section
variable {X : Cx} {K : PySem.W.Frag}
end
end FF
namespace FF
open PySem PySem.Spec PyProof.Rows L2
variable [LT]
/-! ### desks: what stays, and what is told as data -/
section
variable {K : PySem.W.Frag} {H H' : Hp} {x : Addr} {n : Int} {ts : List (Int × Int)} {k : Int} {ws : List V} {rv : V} {m : Int}
end
section
variable {K : PySem.W.Frag} {H H' : Hp}
mutual
theorem Dp.mono (hl : ∀ a xs, SqL K H a xs → SqL K H' a xs) (ht : ∀ a xs, SqT K H a xs → SqT K H' a xs) : ∀ (d : PyData) (v : V), Dp K H v d → Dp K H' v d
  | .none, _, h => by
    cases h
    exact .non
  | .bool b, _, h => by
    cases h
    exact .bl b
  | .int i, _, h => by
    cases h
    exact .int i
  | .str x, _, h => by
    cases h
    exact .str x
  | .list ds, _, h => by
    cases h with
    | lst hs ha => exact .lst (hl _ _ hs) (DpAll.mono hl ht ds _ ha)
  | .tuple ds, _, h => by
    cases h with
    | tup hs ha => exact .tup (ht _ _ hs) (DpAll.mono hl ht ds _ ha)
  | .dict _, _, h => by cases h
theorem DpAll.mono (hl : ∀ a xs, SqL K H a xs → SqL K H' a xs) (ht : ∀ a xs, SqT K H a xs → SqT K H' a xs) : ∀ (ds : List PyData) (vs : List V), DpAll K H vs ds → DpAll K H' vs ds
  | [], _, h => by
    cases h
    exact .nil
  | d :: ds, _, h => by
    cases h with
    | cons h1 h2 => exact .cons (Dp.mono hl ht d _ h1) (DpAll.mono hl ht ds _ h2)
end
end
end FF
namespace FF
open PySem PySem.Spec PyProof.Rows L2
variable [LT]
/-! ### what a desk is due to tell, by the fewest forests -/
end FF
namespace FF
open PySem PySem.Spec PyProof.Rows L2
variable [LT]
/-! ### desks: webs, and what stands of a desk -/
end FF
namespace FF
open PySem PySem.Spec PyProof.Rows L2
variable [LT]
/-! ### is not of any thing and a bool -/
end FF
namespace FF
open PySem PySem.Spec PyProof.Rows L2
variable [LT]
/-! ### a desk's deeds, each with one outcome -/
end FF
namespace FF
open PySem PySem.Spec PyProof.Rows L2
variable [LT]
/-! ### a, b, .. = a list of that length -/
end FF
namespace FF
open PySem PySem.Spec PyProof.Rows L2
variable [LT]
/-! ### what is told stays -/
structure Kp (H H' : Hp) : Prop where
  tup : ∀ q xs, H q = some (.tup xs) → H' q = some (.tup xs)
  str : ∀ l s r, H l = some (.lst (.str s :: r)) → H' l = some (.lst (.str s :: r))
theorem Kp.trans {H H' H2 : Hp} (a : Kp H H') (b : Kp H' H2) : Kp H H2 := ⟨fun q xs z => b.tup q xs (a.tup q xs z), fun l s r z => b.str l s r (a.str l s r z)⟩
theorem Ke.kp {H H' : Hp} (k : Ke H H') : Kp H H' := ⟨fun _ _ z => Ke.tup k z, fun _ _ _ z => Ke.lst k z⟩
theorem Kp.put {H : Hp} {p : Addr} {hs hs' : List V} (h : H p = some (.lst hs)) (hn : ∀ s r, hs ≠ .str s :: r) : Kp H (upd H p (.lst hs')) := ⟨fun q xs z => by
  rw [upd_ne (ne_of z h fun y => nomatch y)]
  exact z, fun l s r z => by
  rw [upd_ne fun e => ?_]
  · exact z
  · rw [e, h] at z
    injection z with z
    injection z with z
    exact hn s r z⟩
theorem Dk.kp {p : Addr} {H H' : Hp} (k : Dk p H H') (d : Deck H p) : Kp H H' := ⟨fun q xs z => k.tup d z, fun l s r z => k.lst z fun e => by
  obtain ⟨ds, h, _⟩ := d
  rw [e, h] at z
  injection z with z
  injection z with z
  cases ds with
  | nil => cases z
  | cons a b => cases z⟩
end FF
namespace FF
open PySem PySem.Spec PyProof.Rows L2
variable [LT]
/-! ### sorted(tuple of pairs) -/
section
variable {prog : Program} {w : World} {A : Around} {E : Value → Shared → Prop} {s : Shared}
end
/-! ### collections in which no lot is full -/
section
variable {K : PySem.W.Frag} {H H' : Hp} {x : Addr} {n : Int} {ts : List (Int × Int)} {k : Int} {ws : List V} {rv : V} {m : Int} {l : Addr}
end
end FF
namespace FF
open PySem PySem.Spec PyProof.Rows L2
variable [LT]
/-! ### the search from several ties at once -/
section
variable {ts : List (Int × Int)} {ws : List V} {k : Int} {Zs : List Int} {fl : List (Int × Option (Int × Int))} {lv : Nat → Nat} {a : Nat}
end
section
variable {H : Hp} {n : Int} {ts : List (Int × Int)} {ws : List V} {k : Int} {Zs : List Int} {d nb hg wt : Addr} {bl : List (Int × Addr)} {G G' : Hp} {pl pl' : List (Int × V)} {fl fl' : List (Int × Option (Int × Int))} {lv lv' : Nat → Nat} {a a' : Nat} {gl gl' : List (Int × Addr)}
end
end FF
namespace FF
open PySem PySem.Spec PyProof.Rows L2
variable [LT]
/-! ### what lies within a tight lot stays there -/
section
variable {ts : List (Int × Int)} {n k : Int} {ws : List V} {ls : List Int}
abbrev inL (ts : List (Int × Int)) (ls : List Int) (m : Int) : Prop := (tk ts m).1 ∈ ls ∧ (tk ts m).2 ∈ ls
theorem TightL.joined (h : TightL ts n k ws ls) (hL : LayK ts k ws) {f : Int} (f0 : 0 ≤ f) (f1 : f < k) {a b : Int} (ha : a ∈ ls) (hb : b ∈ ls) : jn ts ((numsFrom f 0 ws).filter fun m => decide ((tk ts m).1 ∈ ls) && decide ((tk ts m).2 ∈ ls)) a b := by
  have e : pick ts ((numsFrom f 0 ws).filter fun m => decide ((tk ts m).1 ∈ ls) && decide ((tk ts m).2 ∈ ls)) = (layerOf ts ws f).filter fun t => decide (t.1 ∈ ls) && decide (t.2 ∈ ls) := by
    rw [← show pick ts (numsFrom f 0 ws) = layerOf ts ws f from pick_nums f [] ts ws hL.len.symm]
    unfold pick
    rw [List.filter_map]
    rfl
  show foldR (fun x => x) (pick ts _) a = foldR (fun x => x) (pick ts _) b
  rw [e]
  exact tight_joined (hL.tree f) h.lot (h.tight f f0 f1) ha hb
theorem TightL.ring (h : TightL ts n k ws ls) (hL : LayK ts k ws) {f : Int} (f0 : 0 ≤ f) (f1 : f < k) {s x : Int} (hs : inL ts ls s) (ho : OnR ts (numsFrom f 0 ws) s x) : inL ts ls x := by
  by_cases c : inL ts ls x
  · exact c
  · refine (ho.2 (jn_sub (fun m hm => ?_) (h.joined hL f0 f1 hs.1 hs.2))).elim
    obtain ⟨m1, m2⟩ := List.mem_filter.mp hm
    rw [Bool.and_eq_true, decide_eq_true_eq, decide_eq_true_eq] at m2
    unfold but
    refine List.mem_filter.mpr ⟨m1, ?_⟩
    rw [decide_eq_false (p := m = x) fun z => c (by rw [← z]; exact m2)]
    rfl
theorem TightL.rch (h : TightL ts n k ws ls) (hL : LayK ts k ws) {t x : Int} (ht : inL ts ls t) (hr : Rch ts ws k t x) : inL ts ls x := by
  induction hr with
  | base => exact ht
  | step _ f0 f1 _ _ ho ih => exact h.ring hL f0 f1 ih ho
theorem TightL.no_row (h : TightL ts n k ws ls) (hL : LayK ts k ws) : ∀ {es : List (Int × Int)} {e : Int × Int} {r : List (Int × Int)}, es = e :: r → PRow ts ws k es → inL ts ls e.1 → False
  | [], _, _, h0, _, _ => nomatch h0
  | [e], _, _, h0, hp, hi => by
    cases h0
    obtain ⟨_, f0, f1⟩ := hp.bd e (List.mem_singleton.mpr rfl)
    have hj : joinB ts ws e = true := (jn_join hL.len).mpr (jn_sub (fun m hm => (List.mem_filter.mp hm).1) (h.joined hL f0 f1 hi.1 hi.2))
    have hq : (!joinB ts ws e) = true := hp.push
    rw [hj] at hq
    cases hq
  | e :: e' :: r, _, _, h0, hp, hi => by
    cases h0
    obtain ⟨_, f0, f1⟩ := hp.bd e List.mem_cons_self
    have ho := (pushB_parts.mp hp.push).2.1
    exact h.no_row hL rfl hp.tail (h.ring hL f0 f1 hi ho)
theorem TightL.free (h : TightL ts n k ws ls) (hL : LayK ts k ws) {t : Int} (ht : inL ts ls t) : ¬ ∃ d r, PRow ts ws k (d :: r) ∧ d.1 = t := fun ⟨d, r, hp, e⟩ => h.no_row hL rfl hp (e ▸ ht)
end
/-! ### what is reached from a tie that no row lays -/
theorem Closed.tight {ts : List (Int × Int)} {n k : Int} {ws : List V} {R ls : List Int} (h : Closed ts ws k R) (hL : LayK ts k ws) (hE : EndsOf ts R ls) (hl : Lot n ls) (hne : R ≠ []) : TightL ts n k ws ls := ⟨hl, fun f f0 f1 => h.tree hL.len hE hne hL.tree f0 f1⟩
/-! ### the noted lots are the least -/
theorem filter_imp {α : Type} {p q : α → Bool} (h : ∀ x, p x = true → q x = true) (l : List α) : l.filter p = (l.filter q).filter p := by
  rw [List.filter_filter]
  refine List.filter_congr fun x _ => ?_
  cases e : p x with
  | false => rfl
  | true => rw [h x e]; rfl
/-- ties within a tight lot are the same when more is laid -/
theorem TightL.back {ts : List (Int × Int)} {n k : Int} {ws ws' : List V} {ls ls' : List Int} (h : TightL ts n k ws ls) (hk : 0 ≤ k) (hL : LayK ts k ws) (hL' : LayK ts k ws') (hs : ∀ i : Nat, ws'[i]? = some .non → ws[i]? = some .non) (h' : TightL ts n k ws' ls') (sub : ∀ x ∈ ls', x ∈ ls) : TightL ts n k ws ls' := by
  refine ⟨h'.lot, fun f f0 f1 => ?_⟩
  have hst := h.stay hk hL hL' hs
  have e1 := (tight_iff hL hk h.lot.nd h.lot.ne).mpr fun f f0 f1 => by have := h.tight f f0 f1; omega
  have e2 := (tight_iff hL' hk h.lot.nd h.lot.ne).mpr fun f f0 f1 => by have := hst.tight f f0 f1; omega
  have sl := (laidT_sub (ts := ts) (hL'.len.trans hL.len.symm) hs).filter fun t : Int × Int => decide (t.1 ∈ ls) && decide (t.2 ∈ ls)
  have ee : (laidT ts ws).filter (fun t : Int × Int => decide (t.1 ∈ ls) && decide (t.2 ∈ ls)) = (laidT ts ws').filter fun t : Int × Int => decide (t.1 ∈ ls) && decide (t.2 ∈ ls) := sl.eq_of_length (by
    unfold inside at e1 e2
    omega)
  have hp : ∀ t : Int × Int, (decide (t.1 ∈ ls') && decide (t.2 ∈ ls')) = true → (decide (t.1 ∈ ls) && decide (t.2 ∈ ls)) = true := fun t z => by
    rw [Bool.and_eq_true, decide_eq_true_eq, decide_eq_true_eq] at z ⊢
    exact ⟨sub _ z.1, sub _ z.2⟩
  have e3 : inside ls' (laidT ts ws) = inside ls' (laidT ts ws') := by
    unfold inside
    rw [filter_imp hp (laidT ts ws), filter_imp hp (laidT ts ws'), ee]
  have e4 := (tight_iff hL' hk h'.lot.nd h'.lot.ne).mpr fun f f0 f1 => by have := h'.tight f f0 f1; omega
  rw [← e3] at e4
  have := (tight_iff hL hk h'.lot.nd h'.lot.ne).mp e4 f f0 f1
  omega
end FF
namespace FF
open PySem PySem.Spec PyProof.Rows L2
variable [LT]
/-! ### which ties some fullest laying leaves out -/
section
variable {ts : List (Int × Int)} {n k : Int} {ws : List V} {Zs : List Int} {fl : List (Int × Option (Int × Int))} {lv : Nat → Nat} {a : Nat}
/-! ### the row that leaves a tie out -/
end
end FF
namespace FF
open PySem PySem.Spec PyProof.Rows L2
variable [LT]
/-! ### what needed_ties tells -/
theorem Pth.key {fl : FlT} {x : Int} {es : List (Int × Int)} (h : Pth fl x es) : x ∈ fl.map Prod.fst := by
  cases h with
  | root h => exact List.mem_map.mpr ⟨_, h, rfl⟩
  | step h _ => exact List.mem_map.mpr ⟨_, h, rfl⟩
end FF
namespace FF
open PySem PySem.Spec PyProof.Rows L2
variable [LT]
/-! ### all layings of a small web -/
theorem LayK.nil_iff {k : Int} {ws : List V} (h : LayK [] k ws) : ws = [] := List.length_eq_zero_iff.mp h.len
/-- a laying of one tie more is a laying and an entry -/
theorem LayK.init {ts : List (Int × Int)} {k : Int} {ws : List V} {i : Nat} (hi : i < ts.length) (h : LayK (ts.take (i + 1)) k ws) : ∃ us x, ws = us ++ [x] ∧ LayK (ts.take i) k us ∧ (x = .non ∨ ∃ f, x = V.int f ∧ 0 ≤ f ∧ f < k) := by
  have hl := h.len
  rw [List.length_take] at hl
  have hne : ws ≠ [] := fun z => by rw [z] at hl; have : 0 = min (i + 1) ts.length := hl; omega
  obtain ⟨us, x, rfl⟩ : ∃ us x, ws = us ++ [x] := ⟨_, _, (List.dropLast_concat_getLast hne).symm⟩
  rw [List.length_append, List.length_singleton] at hl
  refine ⟨us, x, rfl, ?_, h.each x (List.mem_append_right _ List.mem_cons_self)⟩
  have := h.erase (g := i) (by rw [List.length_take]; omega)
  rw [show (us ++ [x]).eraseIdx i = us by rw [List.eraseIdx_append_of_length_le (by omega), show i - us.length = 0 by omega]; exact List.append_nil _, show (ts.take (i + 1)).eraseIdx i = ts.take i by rw [List.take_add_one, List.eraseIdx_append_of_length_le (by rw [List.length_take]; omega), List.length_take, show i - min i ts.length = 0 by omega, List.getElem?_eq_getElem hi]; exact List.append_nil _] at this
  exact this
end FF
namespace FF
open PySem PySem.Spec PyProof.Rows L2
variable [LT]
/-! ### what needed_ties tells, as data -/
end FF
namespace FF
open PySem PySem.Spec PyProof.Rows L2
variable [LT]
/-! ### a search that notes whence each came -/
section
variable {H H' : Hp} {kl : List (Int × V)} {pl : List (Int × Option (Int × Int))}
end
section
variable {n : Int} {ts : List (Int × Int)} {ms : List Int} {a : Int} {pl : List (Int × Option (Int × Int))}
end
end FF
namespace FF
open PySem PySem.Spec PyProof.Rows L2
variable [LT]
/-! ### tuple(reversed(xs)) -/
section
variable {prog : Program} {w : World} {A : Around} {E : Value → Shared → Prop} {s : Shared}
end
section
variable {X : Cx}
end
end FF
namespace FF
open PySem PySem.Spec PyProof.Rows L2
variable [LT]
/-! ### rows that lay a tie, as the program looks at them -/
end FF
namespace FF
open PySem PySem.Spec PyProof.Rows L2
variable [LT]
/-! ### rooms of all tight lots -/
section
variable {ts : List (Int × Int)} {n k : Int} {ws : List V} {ps : List (Int × Int)} {lots lots' : List (List Int)} {rows rows' : List ((Int × Int) × List (Int × Int))}
end
/-! ### rooms as data -/
end FF
namespace FF
open PySem PySem.Spec PyProof.Rows L2
variable [LT]
/-! ### layings that are known to the object -/
theorem TF.kx {S : Addr → Prop} {H H' : Hp} {a : Addr} {xs : List V} (h : TF H a xs) (k : Kx S H H') (n : ¬ S a) : TF H' a xs := by
  obtain ⟨o, e, d⟩ := h
  exact ⟨o, k.at_ a _ e (fun _ z => nomatch z) n, d⟩
theorem TF.ne {H : Hp} {a b : Addr} {xs : List V} {u : HO} (h : TF H a xs) (e : H b = some u) (n : ∀ o ys, u ≠ .frz o (.tup ys)) : a ≠ b := fun z => by
  obtain ⟨o, e1, _⟩ := h
  rw [z, e] at e1
  exact n _ _ (Option.some.inj e1)
end FF
namespace FF
open PySem PySem.Spec PyProof.Rows L2
variable [LT]
/-! ### how many ties one forest more lays -/
end FF
namespace FF
open PySem PySem.Spec PyProof.Rows L2
variable [LT]
/-! ### things looked into to any depth -/
def rdT (H : Hp) (v : V) : Option (List V) := match v with
  | .ref a => match H a with
    | some (.tup xs) => some xs
    | _ => none
  | _ => none
def DT : Nat → Hp → V → Prop
  | 0, H, v => ∃ n, TyN H v n
  | d + 1, H, v => (∃ n, TyN H v n ∧ n ≠ "tuple") ∨ ∃ a xs, v = .ref a ∧ H a = some (.tup xs) ∧ xs.length ≤ 1000 ∧ ∀ x ∈ xs, DT d H x
theorem rdT_tup {H : Hp} {a : Addr} {xs : List V} (h : H a = some (.tup xs)) : rdT H (.ref a) = some xs := by
  show (match H a with
    | some (.tup xs) => some xs
    | _ => none) = _
  rw [h]
theorem rdT_no {H : Hp} {v : V} {n : String} (h : TyN H v n) (hn : n ≠ "tuple") : rdT H v = none := by
  cases h with
  | tup h => exact absurd rfl hn
  | lst h =>
    show (match H _ with
      | some (.tup xs) => some xs
      | _ => none) = _
    rw [h]
  | dic h =>
    show (match H _ with
      | some (.tup xs) => some xs
      | _ => none) = _
    rw [h]
  | _ => rfl
theorem DT.ty : ∀ {d : Nat} {H : Hp} {v : V}, DT d H v → ∃ n, TyN H v n
  | 0, _, _, h => h
  | _ + 1, _, _, .inl ⟨n, h, _⟩ => ⟨n, h⟩
  | _ + 1, _, _, .inr ⟨_, _, e, h, _, _⟩ => ⟨"tuple", by rw [e]; exact TyN.tup h⟩
theorem DT.down : ∀ {d : Nat} {H : Hp} {v : V}, DT (d + 1) H v → DT d H v
  | 0, _, _, h => h.ty
  | _ + 1, _, _, .inl h => .inl h
  | _ + 1, _, _, .inr ⟨a, xs, e, h, hl, hx⟩ => .inr ⟨a, xs, e, h, hl, fun x hm => (hx x hm).down⟩
theorem DT.low {H : Hp} {v : V} {d : Nat} : ∀ {e : Nat}, DT (d + e) H v → DT d H v
  | 0, h => h
  | e + 1, h => DT.low (e := e) (DT.down h)
theorem DT.mono : ∀ {d : Nat} {H H' : Hp} {v : V}, DT d H v → (∀ q xs, H q = some (.tup xs) → H' q = some (.tup xs)) → (∀ v n, TyN H v n → TyN H' v n) → DT d H' v
  | 0, _, _, _, ⟨n, h⟩, _, y => ⟨n, y _ _ h⟩
  | _ + 1, _, _, _, .inl ⟨n, h, hn⟩, _, y => .inl ⟨n, y _ _ h, hn⟩
  | _ + 1, _, _, _, .inr ⟨a, xs, e, h, hl, hx⟩, k, y => .inr ⟨a, xs, e, k _ _ h, hl, fun x hm => (hx x hm).mono k y⟩
theorem DT.ke {d : Nat} {H H' : Hp} {v : V} (h : DT d H v) (k : Ke H H') : DT d H' v := h.mono (fun _ _ => k.tup) fun _ _ z => z.ke k
theorem DT.new {d : Nat} {H : Hp} {p : Addr} {o : HO} {v : V} (h : DT d H v) (k : H p = none) : DT d (upd H p o) v := h.ke (Ke.new k)
theorem DT.put {d : Nat} {H : Hp} {p : Addr} {xs ys : List V} {v : V} (h : DT d H v) (k : H p = some (.lst xs)) : DT d (upd H p (.lst ys)) v := h.mono (fun q zs e => by rw [upd_ne (ne_of e k (fun z => nomatch z))]; exact e) fun _ _ z => z.put k
theorem DT.dk {d : Nat} {H H' : Hp} {p : Addr} {v : V} (h : DT d H v) (k : Dk p H H') (g : Deck H p) : DT d H' v := h.mono (fun _ _ => k.tup g) fun _ _ z => z.dk k g
theorem DT.tpl {d : Nat} {H : Hp} {v : V} (h : DT (d + 1) H v) : Tpl H v (rdT H v) := by
  rcases h with ⟨n, h, hn⟩ | ⟨a, xs, rfl, h, _, hx⟩
  · rw [rdT_no h hn]
    exact .no h hn
  · rw [rdT_tup h]
    exact .yes h fun x hm => (hx x hm).ty
theorem DT.rd {d : Nat} {H H' : Hp} {v : V} (h : DT (d + 1) H v) (k : Ke H H') : rdT H' v = rdT H v := by
  rcases h with ⟨n, h, hn⟩ | ⟨a, xs, rfl, h, _, hx⟩
  · rw [rdT_no h hn, rdT_no (h.ke k) hn]
  · rw [rdT_tup h, rdT_tup (k.tup h)]
theorem DT.tup {d : Nat} {H : Hp} {a : Addr} {xs : List V} (h : H a = some (.tup xs)) (hl : xs.length ≤ 1000) (hx : ∀ x ∈ xs, DT d H x) : DT (d + 1) H (.ref a) := .inr ⟨a, xs, rfl, h, hl, hx⟩
theorem DT.of {H : Hp} {v : V} {n : String} (h : TyN H v n) (hn : n ≠ "tuple") : ∀ {d : Nat}, DT d H v
  | 0 => ⟨n, h⟩
  | _ + 1 => .inl ⟨n, h, hn⟩
/-- an entry -/
def rdE (H : Hp) (v : V) : Option (V × V) := match rdT H v with
  | some [x, y] => some (x, y)
  | _ => none
theorem DT.ent {d : Nat} {H : Hp} {v : V} (h : DT (d + 1) H v) : EntT H v (rdE H v) := by
  rcases h with ⟨n, h, hn⟩ | ⟨a, xs, rfl, h, _, hx⟩
  · unfold rdE
    rw [rdT_no h hn]
    exact .no h hn
  · unfold rdE
    rw [rdT_tup h]
    match xs, h, hx with
    | [], h, _ => exact .odd h (by decide)
    | [_], h, _ => exact .odd h (by simp)
    | [x, y], h, hx =>
      obtain ⟨n, hn⟩ := (hx x List.mem_cons_self).ty
      obtain ⟨m, hm⟩ := (hx y (List.mem_cons_of_mem _ List.mem_cons_self)).ty
      exact .yes h hn hm
    | _ :: _ :: _ :: r, h, _ => exact .odd h (by simp)
theorem DT.rdE {d : Nat} {H H' : Hp} {v : V} (h : DT (d + 1) H v) (k : Ke H H') : FF.rdE H' v = FF.rdE H v := by
  unfold FF.rdE
  rw [h.rd k]
/-- a row of entries -/
def rdR (H : Hp) (v : V) : Option (List (Option (V × V))) := match rdT H v with
  | some xs => some (xs.map (rdE H))
  | none => none
theorem DT.row {d : Nat} {H : Hp} {v : V} (h : DT (d + 1 + 1) H v) : RowO H v (rdR H v) ∧ ∀ os, rdR H v = some os → os.length ≤ 1000 := by
  rcases h with ⟨n, h, hn⟩ | ⟨a, xs, rfl, h, hl, hx⟩
  · unfold rdR
    rw [rdT_no h hn]
    exact ⟨.no h hn, fun _ z => nomatch z⟩
  · unfold rdR
    rw [rdT_tup h]
    refine ⟨.yes h ?_, fun os e => by cases e; rw [List.length_map]; exact hl⟩
    clear h hl
    induction xs with
    | nil => exact .nil
    | cons x xs ih => exact .cons (hx x List.mem_cons_self).ent (ih fun y hy => hx y (List.mem_cons_of_mem _ hy))
theorem DT.rdR {d : Nat} {H H' : Hp} {v : V} (h : DT (d + 1 + 1) H v) (k : Ke H H') : FF.rdR H' v = FF.rdR H v := by
  unfold FF.rdR
  rw [h.rd k]
  rcases h with ⟨n, h, hn⟩ | ⟨a, xs, rfl, h, hl, hx⟩
  · rw [rdT_no h hn]
  · rw [rdT_tup h]
    exact congrArg some (List.map_congr_left fun x hm => (hx x hm).rdE k)
/-! ### rooms of any thing -/
def roomB (ts : List (Int × Int)) (n k : Int) (ws : List V) (o : Option (List V)) : Bool := lotO n o && match o with
  | none => false
  | some xs => decide (1 < (xs.length : Int)) && decide ((inside (intsOf xs) (laidT ts ws) : Int) = k * ((xs.length : Int) - 1))
def pairB (a b : Int) (o : Option (List V)) : Bool := match o with
  | some [.int x, .int y] => decide (x = a) && decide (y = b)
  | _ => false
noncomputable def rowForB (ts : List (Int × Int)) (k : Int) (ws : List V) (a b : Int) (H : Hp) (v : V) : Bool := match rdT H v with
  | some [e, r] => pairB a b (rdT H e) && rowB (ts ++ [(a, b)]) k (ws ++ [.non]) (ts.length : Int) (rdR H r)
  | _ => false
end FF
namespace FF
open PySem PySem.Spec PyProof.Rows L2
variable [LT]
/-! ### papers of rooms, of any thing -/
theorem DT.rowFor {ts : List (Int × Int)} {k : Int} {ws : List V} {a b : Int} {H H' : Hp} {v : V} (h : DT 3 H v) (kk : Ke H H') : rowForB ts k ws a b H' v = rowForB ts k ws a b H v := by
  unfold rowForB
  rw [h.rd kk]
  rcases h with ⟨n, h, hn⟩ | ⟨t, xs, rfl, h, _, hx⟩
  · rw [rdT_no h hn]
  · rw [rdT_tup h]
    match xs, hx with
    | [], _ => rfl
    | [_], _ => rfl
    | [e, r], hx =>
      dsimp only
      have d1 : DT (1 + 1) H e := hx e List.mem_cons_self
      have d2 : DT (0 + 1 + 1) H r := hx r (List.mem_cons_of_mem _ List.mem_cons_self)
      rw [d1.rd kk, d2.rdR kk]
    | _ :: _ :: _ :: _, _ => rfl
def lotsIn (H : Hp) (ls : List V) : List (List Int) := ls.map fun x => intsOf ((rdT H x).getD [])
noncomputable def rowsB (ts : List (Int × Int)) (k : Int) (ws : List V) (ps : List (Int × Int)) (H : Hp) (rs : List V) : Bool := decide ((rs.length : Int) = (ps.length : Int)) && ((ps.zip rs).all fun p => rowForB ts k ws p.1.1 p.1.2 H p.2)
noncomputable def roomsB (ts : List (Int × Int)) (n k : Int) (ws : List V) (H : Hp) (v : V) : Bool := match rdT H v with
  | some [L, R] => (match rdT H L with
    | none => false
    | some ls => ls.all (fun x => roomB ts n k ws (rdT H x)) && (match rdT H R with
      | none => false
      | some rs => rowsB ts k ws ((pairsL n).filter fun p => !heldB (lotsIn H ls) p.1 p.2) H rs))
  | _ => false
end FF
namespace FF
open PySem PySem.Spec PyProof.Rows L2
variable [LT]
/-! ### rows of things looked into five deep -/
structure ThD (H : Hp) (xs : List V) : Prop where
  all : ∀ x ∈ xs, DT 5 H x
theorem ThD.nil {H : Hp} : ThD H [] := ⟨fun _ z => nomatch z⟩
theorem ThD.cons {H : Hp} {x : V} {xs : List V} (h : DT 5 H x) (t : ThD H xs) : ThD H (x :: xs) := ⟨fun y hy => by
  rcases List.mem_cons.mp hy with rfl | hy
  · exact h
  · exact t.all y hy⟩
theorem ThD.app {H : Hp} {xs ys : List V} (a : ThD H xs) (b : ThD H ys) : ThD H (xs ++ ys) := ⟨fun x hx => (List.mem_append.mp hx).elim (a.all x) (b.all x)⟩
theorem ThD.ke {H H' : Hp} {xs : List V} (h : ThD H xs) (k : Ke H H') : ThD H' xs := ⟨fun x hx => (h.all x hx).ke k⟩
theorem ThD.new {H : Hp} {p : Addr} {o : HO} {xs : List V} (h : ThD H xs) (k : H p = none) : ThD (upd H p o) xs := h.ke (Ke.new k)
theorem ThD.put {H : Hp} {p : Addr} {ys zs : List V} {xs : List V} (h : ThD H xs) (k : H p = some (.lst zs)) : ThD (upd H p (.lst ys)) xs := ⟨fun x hx => (h.all x hx).put k⟩
theorem ThD.dk {H H' : Hp} {p : Addr} {xs : List V} (h : ThD H xs) (k : Dk p H H') (d : Deck H p) : ThD H' xs := ⟨fun x hx => (h.all x hx).dk k d⟩
theorem ThD.tup {H : Hp} {a : Addr} {xs : List V} (h : ThD H xs) (ha : H a = some (.tup xs)) (hl : xs.length ≤ 1000 := by simp) : DT 5 H (.ref a) := DT.tup ha hl fun x hx => (h.all x hx).down
theorem ThD.sub {H : Hp} {xs ys : List V} (h : ThD H xs) (k : ∀ y ∈ ys, y ∈ xs) : ThD H ys := ⟨fun y hy => h.all y (k y hy)⟩
theorem td_non {H : Hp} : DT 5 H .non := DT.of .non (by decide)
theorem td_bl {H : Hp} (b : Bool) : DT 5 H (.bl b) := DT.of (.bl b) (by decide)
theorem td_int {H : Hp} (i : Int) : DT 5 H (.int i) := DT.of (.int i) (by decide)
theorem td_str {H : Hp} (z : Str) : DT 5 H (.str z) := DT.of (.str z) (by decide)
theorem td_lst {H : Hp} {a : Addr} {xs : List V} (h : H a = some (.lst xs)) : DT 5 H (.ref a) := DT.of (.lst h) (by decide)
theorem td_dic {H : Hp} {a : Addr} {xs : List (Key × V)} (h : H a = some (.dK xs)) : DT 5 H (.ref a) := DT.of (.dic h) (by decide)
/-- a tuple of ints, to any depth -/
theorem DT.ints {d : Nat} {H : Hp} {a : Addr} {ls : List Int} (h : H a = some (.tup (ls.map V.int))) (hl : ls.length ≤ 1000) : DT (d + 1) H (.ref a) := DT.tup h (by rw [List.length_map]; exact hl) fun x hx => by
  obtain ⟨i, _, rfl⟩ := List.mem_map.mp hx
  exact DT.of (.int i) (by decide)
theorem ThD.cut {H : Hp} {xs : List V} {lo hi : Option Int} (h : ThD H xs) : ThD H (cutV xs lo hi) := h.sub fun _ => cutV_mem
theorem ThD.rev {H : Hp} {xs : List V} (h : ThD H xs) : ThD H xs.reverse := h.sub fun _ => List.mem_reverse.mp
theorem ThD.ints {H : Hp} (ls : List Int) : ThD H (ls.map V.int) := ⟨fun x hx => by
  obtain ⟨i, _, rfl⟩ := List.mem_map.mp hx
  exact td_int i⟩
end FF
namespace FF
open PySem PySem.Spec PyProof.Rows L2
variable [LT]
/-! ### the answer about a paper of rooms stays -/
theorem DT.rooms {ts : List (Int × Int)} {n k : Int} {ws : List V} {H H' : Hp} {v : V} (h : DT 5 H v) (kk : Ke H H') : roomsB ts n k ws H' v = roomsB ts n k ws H v := by
  unfold roomsB
  rw [h.rd kk]
  rcases h with ⟨n, h, hn⟩ | ⟨t, xy, rfl, h, _, hx⟩
  · rw [rdT_no h hn]
  · rw [rdT_tup h]
    match xy, hx with
    | [], _ => rfl
    | [_], _ => rfl
    | [L, R], hx =>
      dsimp only
      have dL : DT (3 + 1) H L := hx L List.mem_cons_self
      have dR : DT (3 + 1) H R := hx R (List.mem_cons_of_mem _ List.mem_cons_self)
      rw [dL.rd kk, dR.rd kk]
      rcases dL with ⟨n, h, hn⟩ | ⟨lt, ls, rfl, h, _, hl⟩
      · rw [rdT_no h hn]
      · rw [rdT_tup h]
        dsimp only
        have hl1 : ∀ x ∈ ls, rdT H' x = rdT H x := fun x hm => by
          have d : DT (0 + 1) H x := (hl x hm).low (d := 1) (e := 2)
          exact d.rd kk
        have e1 : ls.all (fun x => roomB ts n k ws (rdT H' x)) = ls.all (fun x => roomB ts n k ws (rdT H x)) := by
          rw [Bool.eq_iff_iff, List.all_eq_true, List.all_eq_true]
          exact ⟨fun a x hm => by rw [← hl1 x hm]; exact a x hm, fun a x hm => by rw [hl1 x hm]; exact a x hm⟩
        have e2 : lotsIn H' ls = lotsIn H ls := List.map_congr_left fun x hm => by rw [hl1 x hm]
        rw [e1, e2]
        rcases dR with ⟨n, h, hn⟩ | ⟨rt, rs, rfl, h, _, hr⟩
        · rw [rdT_no h hn]
        · rw [rdT_tup h]
          dsimp only
          congr 1
          unfold rowsB
          congr 1
          rw [Bool.eq_iff_iff, List.all_eq_true, List.all_eq_true]
          have hz : ∀ (ps : List (Int × Int)) (p : (Int × Int) × V), p ∈ ps.zip rs → rowForB ts k ws p.1.1 p.1.2 H' p.2 = rowForB ts k ws p.1.1 p.1.2 H p.2 := fun ps p hm => by
            have d : DT 3 H p.2 := hr p.2 (List.of_mem_zip (a := p.1) (b := p.2) hm).2
            exact d.rowFor kk
          exact ⟨fun a x hm => by rw [← hz _ x hm]; exact a x hm, fun a x hm => by rw [hz _ x hm]; exact a x hm⟩
    | _ :: _ :: _ :: _, _ => rfl
end FF
namespace FF
open PySem PySem.Spec PyProof.Rows L2
variable [LT]
/-! ### tables of defs with a lambda -/
def LTabs (lt : List (Addr × Str)) (H : Hp) : Prop := ∀ p ∈ lt, LamX.TabS H p.1 p.2
/-- what is told of the list of such tables -/
structure LtOk (lt : List (Addr × Str)) : Prop where
  lam : ∀ p ∈ lt, LT.lam p.1 = true
  one : ∀ p ∈ lt, ∀ q ∈ lt, p.1 = q.1 → p.2 = q.2
theorem LTabs.kx {lt : List (Addr × Str)} (ok : LtOk lt) {S : Addr → Prop} {H H' : Hp} (h : LTabs lt H) (k : Kx S H H') (hS : ∀ b, S b → (∀ ps, H b ≠ some (.tbl ps)) ∧ ∀ c q, H b ≠ some (LamX.CodeO c q)) : LTabs lt H' := fun p hp => by
  obtain ⟨ps, e1, e2, e3⟩ := h p hp
  refine ⟨ps, k.lam _ ps (ok.lam p hp) (fun z => (hS _ z).1 ps e1) e1, e2, fun pos cv hc => ?_⟩
  obtain ⟨c, g1, g2⟩ := e3 pos cv hc
  exact ⟨c, g1, k.at_ c _ g2 LamX.codeO_ne fun z => (hS _ z).2 c _ g2⟩
theorem LTabs.ke {lt : List (Addr × Str)} (ok : LtOk lt) {H H' : Hp} (h : LTabs lt H) (k : Ke H H') : LTabs lt H' := h.kx ok k fun _ z => z.elim
theorem LTabs.at_lst {lt : List (Addr × Str)} (ok : LtOk lt) {p : Addr} {xs : List V} {H H' : Hp} (h : LTabs lt H) (k : Kx (fun b => b = p) H H') (hp : H p = some (.lst xs)) : LTabs lt H' := h.kx ok k fun b z => by
  rw [z]
  exact ⟨fun ps e => (by rw [hp] at e; cases e), fun c q e => (by rw [hp] at e; unfold LamX.CodeO at e; cases e)⟩
theorem LTabs.dk {lt : List (Addr × Str)} (ok : LtOk lt) {p : Addr} {H H' : Hp} (h : LTabs lt H) (k : Dk p H H') (d : Deck H p) : LTabs lt H' := by
  obtain ⟨ds, e, _⟩ := d
  exact h.at_lst ok k.k e
/-- what the making of a lambda, or a call of a def that makes one, leaves as it was: all but tables of such -/
abbrev Kl (lt : List (Addr × Str)) := Kx fun b => ∃ p ∈ lt, p.1 = b
theorem Kl.not {lt : List (Addr × Str)} {H : Hp} (h : LTabs lt H) {b : Addr} {o : HO} (e : H b = some o) (n : ∀ ps, o ≠ .tbl ps) : ¬ ∃ p ∈ lt, p.1 = b := fun ⟨p, hp, z⟩ => by
  obtain ⟨ps, g, _⟩ := h p hp
  rw [z, e] at g
  exact n ps (Option.some.inj g)
theorem Kl.at' {lt : List (Addr × Str)} {H H' : Hp} (k : Kl lt H H') (h : LTabs lt H) {b : Addr} {o : HO} (e : H b = some o) (n : ∀ ps, o ≠ .tbl ps) : H' b = some o := k.at_ b o e n (Kl.not h e n)
theorem Kl.tup' {lt : List (Addr × Str)} {H H' : Hp} (k : Kl lt H H') (h : LTabs lt H) (q : Addr) (xs : List V) (e : H q = some (.tup xs)) : H' q = some (.tup xs) := k.at' h e fun _ z => nomatch z
theorem Kl.lst' {lt : List (Addr × Str)} {H H' : Hp} (k : Kl lt H H') (h : LTabs lt H) {q : Addr} {xs : List V} (e : H q = some (.lst xs)) : H' q = some (.lst xs) := k.at' h e fun _ z => nomatch z
theorem Kl.deck {lt : List (Addr × Str)} {H H' : Hp} {p : Addr} (k : Kl lt H H') (h : LTabs lt H) (d : Deck H p) : Deck H' p := by
  obtain ⟨ds, e, g⟩ := d
  exact ⟨ds, k.lst' h e, g⟩
theorem Ke.kl {lt : List (Addr × Str)} {H H' : Hp} (k : Ke H H') : Kl lt H H' := k.to
section
variable {X : Cx} {pins : List (Addr × Obj)} {σ : L2.St} {H : Hp} {s : Shared}
theorem lam_make3 {lt : List (Addr × Str)} {c P : Addr} {params : Arguments} {body : Expr} {scope : Scope} {pos : Pos} {E Q : Value → Shared → Prop} (ok : LtOk lt) (I : Inv X pins σ H s) (TB : LamX.TabB X.base X.mg c P) (hcode : X.env.code = .ref c)
    (hm : (P, X.env.qual ++ "<lambda>") ∈ lt) (hT : LTabs lt H) (hdef : defaultsOf params X.env = ([], [])) (hfree : ∀ y ∈ scope.names, y.2 = .free → ∃ c, X.env.cells.lookup y.1 = some c)
    (fin : ∀ (f c' : Addr) (pm ctv : Value) (G : Hp) (t : Shared), Inv X pins σ G t → (∀ b o, b ≠ P → s.heap.get? b = some o → t.heap.get? b = some o) → LTabs lt G → Kl lt H G → s.heap.objs.size ≤ f → G f = none →
      t.heap.get? f = some (PySem.W.kla_obj "<lambda>" (X.env.qual ++ "<lambda>") params body scope (cloFrom X.env.cells scope.names []) pm c' ctv) → G c' = some (LamX.CodeO c' (X.env.qual ++ "<lambda>")) → Q (.ref f) t) :
    wpAny (model X.prog X.w) X.A (eval (.Lambda params body scope pos) X.env) Q E s := by
  obtain ⟨ps, hP, ht, ha⟩ := hT _ hm
  refine PySem.W.kla_eval hdef ?_
  have objP : s.heap.get? P = some { cls := .none, data := .fields ps } := I.hok P _ hP
  have bltP : s.heap.BuiltinsAt X.mg P := TB.bm.keeps I.bk
  have lamP : LT.lam P = true := ok.lam _ hm
  rcases hc : codeAmong pos ps.toList with _ | cv
  · refine PySem.W.kla_makeFunction (closure_ok hfree) I.ok.glob
      (I.mod.glob.keeps I.bk) hcode
      (TB.code.keeps I.bk) objP ht hc TB.gP bltP
      fun c' ctv h' tk ext lo hi ⟨c2, oc, vs, t, ec, e1, e2, e3⟩ tb' => ?_
    cases ec
    have freeC : H c' = none := I.hok.fresh lo
    have grown : s.heap.objs.size ≤ h'.objs.size := Nat.le_trans lo (Nat.le_of_lt hi)
    obtain ⟨fo, efo⟩ : ∃ fo, fo = PySem.W.kla_obj "<lambda>" (X.env.qual ++ "<lambda>") params body scope (cloFrom X.env.cells scope.names []) ((X.mg "__name__").getD .none) c' ctv := ⟨_, rfl⟩
    rw [← efo]
    have J := LamX.inv_table (t' := tk) (h' := h'.push fo) I hP (fun b o nb e => Heap.get?_push_of_some _ (ext b o nb e)) (Heap.get?_push_of_some _ tb') lo ⟨oc, vs, t, Heap.get?_push_of_some _ e1, e2, e3⟩
    have neP : ∀ b, H b ≠ some (.tbl ps) → b ≠ P := fun b z w => z (by rw [w]; exact hP)
    have here : ∀ b, b ≠ P → b ≠ c' → (upd (upd H P (.tbl (ps ++ #[rawInt pos.line, rawInt pos.col, .ref c']))) c' (LamX.CodeO c' (X.env.qual ++ "<lambda>"))) b = H b := fun b z w => by rw [upd_ne w, upd_ne z]
    have cP : P ≠ c' := ne_of_none hP freeC
    have atP : (upd (upd H P (.tbl (ps ++ #[rawInt pos.line, rawInt pos.col, .ref c']))) c' (LamX.CodeO c' (X.env.qual ++ "<lambda>"))) P = some (.tbl (ps ++ #[rawInt pos.line, rawInt pos.col, .ref c'])) := by rw [upd_ne cP, upd_same]
    have atC : (upd (upd H P (.tbl (ps ++ #[rawInt pos.line, rawInt pos.col, .ref c']))) c' (LamX.CodeO c' (X.env.qual ++ "<lambda>"))) c' = some (LamX.CodeO c' (X.env.qual ++ "<lambda>")) := upd_same
    generalize upd (upd H P (.tbl (ps ++ #[rawInt pos.line, rawInt pos.col, .ref c']))) c' (LamX.CodeO c' (X.env.qual ++ "<lambda>")) = G at *
    have kl : Kl lt H G := by
      refine ⟨fun b o e n z => ?_, fun b ⟨qs, e, q, l⟩ => ?_, fun b e => ?_, fun b qs l z e => ?_⟩
      · rw [here b (fun w => z ⟨_, hm, w.symm⟩) (ne_of_none e freeC)]
        exact e
      · refine ⟨qs, ?_, q, l⟩
        rw [here b (fun w => by rw [w, lamP] at l; cases l) (ne_of_none e freeC)]
        exact e
      · rw [here b (fun w => by rw [w, atP] at e; cases e) (fun w => by rw [w, atC] at e; cases e)] at e
        exact e
      · rw [here b (fun w => z ⟨_, hm, w.symm⟩) (ne_of_none e freeC)]
        exact e
    have code : ∀ (d : Addr) (q : Str), H d = some (LamX.CodeO d q) → G d = some (LamX.CodeO d q) := fun d q e => by
      rw [here d (fun w => by rw [w, hP] at e; unfold LamX.CodeO at e; cases e) (ne_of_none e freeC)]
      exact e
    refine fin h'.objs.size c' _ ctv G _ J (fun b o nb e => Heap.get?_push_of_some _ (ext b o nb e)) (fun p hp => ?_) kl grown ?_ (by rw [efo]; exact Heap.get?_push_size _ rfl) atC
    · by_cases w : p.1 = P
      · have wq : p.2 = X.env.qual ++ "<lambda>" := ok.one p hp _ hm w
        have eL : (ps ++ #[rawInt pos.line, rawInt pos.col, .ref c']).toList = ps.toList ++ [rawInt pos.line, rawInt pos.col, .ref c'] := by simp
        rw [wq, w]
        refine ⟨_, atP, by rw [eL]; exact PySem.TriplesOk_snoc _ _ _ _ ht, fun p' cv' hcv => ?_⟩
        rw [eL] at hcv
        rcases LamX.among_app _ ht hcv with old | new
        · obtain ⟨d, g1, g2⟩ := ha p' cv' old
          exact ⟨d, g1, code d _ g2⟩
        · exact ⟨c', new, atC⟩
      · obtain ⟨qs, g1, g2, g3⟩ := hT p hp
        refine ⟨qs, by rw [here p.1 w (ne_of_none g1 freeC)]; exact g1, g2, fun p' cv' hcv => ?_⟩
        obtain ⟨d, g4, g5⟩ := g3 p' cv' hcv
        exact ⟨d, g4, code d _ g5⟩
    · have n1 : h'.objs.size ≠ c' := Nat.ne_of_gt hi
      have n2 : h'.objs.size ≠ P := Nat.ne_of_gt (Nat.lt_of_lt_of_le (Heap.lt_size objP) grown)
      rw [here _ n2 n1]
      exact I.hok.fresh grown
  · obtain ⟨c', ec, hco⟩ := ha pos cv hc
    subst ec
    refine PySem.W.kla_makeFunctionHit (closure_ok hfree) I.ok.glob
      (I.mod.glob.keeps I.bk) hcode
      (TB.code.keeps I.bk) objP ht hc bltP
      fun ctv h' tk keep grown => ?_
    refine fin h'.objs.size c' _ ctv H _ (I.kept fun b o e => ?_) (fun b o _ e => Heap.get?_push_of_some _ (keep b o e)) hT .refl grown (I.hok.fresh grown) (Heap.get?_push_size _ rfl) hco
    exact Heap.get?_push_of_some _ (keep b o e)
end
end FF
namespace FF
open PySem PySem.Spec PyProof.Rows L2
variable [LT]
/-! ### a lambda of one parameter: its names, its call -/
/-- its names: those of the def that it captures (src tells where they stand there), the parameter last -/
structure LamP (XN : List Str) (xsc scope : Scope) (N : List Str) (src : List Nat) (p : Str) : Prop where
  kind : scope.kind = .function
  co : scope.isCoroutine = false
  gen : scope.isGenerator = false
  cell : ∀ y ∈ scope.names, y.2 ≠ .cell
  par : scope.names.lookup p = some .local
  free : ∀ y ∈ scope.names, y.2 = .free → xsc.names.lookup y.1 = some .cell ∨ xsc.names.lookup y.1 = some .free
  len : N.length = src.length + 1
  last : N[src.length]? = some p
  cap : ∀ (i j : Nat), src[i]? = some j → ∃ x, N[i]? = some x ∧ XN[j]? = some x ∧ scope.names.lookup x = some .free
def lamPB (XN : List Str) (xsc scope : Scope) (N : List Str) (src : List Nat) (p : Str) : Bool :=
  decide (scope.kind = .function) && !scope.isCoroutine && !scope.isGenerator && (scope.names.all fun y => !decide (y.2 = .cell) && (!decide (y.2 = .free) || decide (xsc.names.lookup y.1 = some .cell) || decide (xsc.names.lookup y.1 = some .free))) && decide (scope.names.lookup p = some .local) &&
  decide (N.length = src.length + 1) && decide (N[src.length]? = some p) && (List.range src.length).all fun i => match src[i]?, N[i]? with
    | some j, some x => decide (XN[j]? = some x) && decide (scope.names.lookup x = some .free)
    | _, _ => false
theorem lamP_by {XN : List Str} {xsc scope : Scope} {N : List Str} {src : List Nat} {p : Str} (h : lamPB XN xsc scope N src p = true) : LamP XN xsc scope N src p := by
  unfold lamPB at h
  simp only [Bool.and_eq_true, decide_eq_true_eq, Bool.not_eq_true', List.all_eq_true, Bool.or_eq_true, decide_eq_false_iff_not] at h
  obtain ⟨⟨⟨⟨⟨⟨⟨h1, h2⟩, h3⟩, h4⟩, h5⟩, h6⟩, h7⟩, h8⟩ := h
  refine ⟨h1, h2, h3, fun y hy => (h4 y hy).1, h5, fun y hy e => ?_, h6, h7, fun i j e => ?_⟩
  · rcases (h4 y hy).2 with (z | z) | z
    · exact absurd e z
    · exact .inl z
    · exact .inr z
  · have hi : i < src.length := (List.getElem?_eq_some_iff.mp e).1
    have q := h8 i (List.mem_range.mpr hi)
    rw [e] at q
    cases hn : N[i]? with
    | none => rw [hn] at q; cases q
    | some x =>
      rw [hn] at q
      obtain ⟨q1, q2⟩ := Bool.and_eq_true_iff.mp q
      exact ⟨x, rfl, of_decide_eq_true q1, of_decide_eq_true q2⟩
def lamV (src : List Nat) (σ : L2.St) (v : V) : L2.St := (src.map fun j => (σ[j]?).getD none) ++ [some v]
abbrev lamN (X : Cx) (N : List Str) : Cx := { X with N := N }
section
variable {X : Cx} {pins : List (Addr × Obj)} {σ : L2.St} {H : Hp} {s : Shared}
theorem lam_in {N : List Str} {src : List Nat} {p : Str} {A : Around} {outer : List Env} {E : XK} {scope : Scope} {f c' : Addr} {h₁ : Heap} {tk : Nat} {v : V} {u : Value} (I : Inv X pins σ H s) (L : LamP X.N X.env.scope scope N src p) (e0 : Env0 X.prog X.w X.K X.mg X.base A outer s H) (hd : A.handled = none) (ru : RelV v u)
    (hns : h₁.Ns s.heap.objs.size fun y => ([(p, u)] : List (Str × Value)).reverse.lookup y) (kp : ∀ b o, s.heap.get? b = some o → h₁.get? b = some o) :
    Inv (LamX.lamCx (lamN X N) A outer s H E scope f c') [] (lamV src σ v) H { s with heap := h₁, toks := tk } := by
  have has : ∀ y ∈ scope.names, y.2 = .free → ∃ c, X.env.cells.lookup y.1 = some c := fun y hy e => by
    rcases L.free y hy e with k | k
    · exact I.ok.has _ (.inl k)
    · exact I.ok.has _ (.inr k)
  have own : ∀ {y c}, (cloFrom X.env.cells scope.names []).lookup y = some c → X.env.cells.lookup y = some c := fun {y c} e => by
    rcases cloFrom_mem (PySem.mem_of_lookup e) with z | ⟨z1, z2⟩
    · cases z
    · obtain ⟨d, hd⟩ := has _ z1 rfl
      rw [hd] at z2
      rw [show c = d from z2]
      exact hd
  have clo : ∀ {y}, scope.names.lookup y = some .free → ∃ c, (cloFrom X.env.cells scope.names []).lookup y = some c := fun {y} hl =>
    mem_lookup (cloFrom_has (cells := X.env.cells) (acc := []) (show (y, NameKind.free) ∈ scope.names from PySem.mem_of_lookup hl))
  have nil : ∀ {b : Addr}, b ∉ (LamX.lamCx (lamN X N) A outer s H E scope f c').ex := fun {b} z => nomatch (show b ∈ ([] : List Addr) from z)
  have okC : (LamX.lamCx (lamN X N) A outer s H E scope f c').Ok := by
    refine ⟨e0.mod, L.kind, rfl, rfl, Nat.le_refl _, fun y z c e1 e2 => I.ok.inj y z c (own e1) (own e2), fun y hy => ?_, fun y c z _ => (Bool.false_ne_true z).elim, fun _ => hd, Around.frames_deeper e0.frames, .inr ⟨rfl, rfl⟩, fun b z => (nil z).elim, e0.bs, e0.bsz, fun b _ _ => nil, fun b z => (nil z).elim, e0.funs, e0.frf⟩
    have hy : scope.names.lookup y = some .cell ∨ scope.names.lookup y = some .free := hy
    rcases hy with hy | hy
    · exact absurd rfl (L.cell _ (PySem.mem_of_lookup hy))
    · exact clo hy
  refine ⟨okC, rfl, e0.bare, Un.kept kp, ⟨_, hns, fun i y w e1 e2 e3 => ?_⟩, fun y c e => ?_, e0.hok.fresh (Nat.le_refl _), fun y c e => I.freeC y c (own e), fun q hq => (nomatch (show q ∈ ([] : List (Addr × Obj)) ++ [] from hq)), e0.hok.kept kp, ?_⟩
  · unfold lamV at e2
    rcases Nat.lt_trichotomy i src.length with hi | hi | hi
    · rw [List.getElem?_append_left (by simpa using hi), List.getElem?_map, List.getElem?_eq_getElem hi] at e2
      have e2 : some ((σ[src[i]]?).getD none) = some (some w) := e2
      have e4 : σ[src[i]]? = some (some w) := by
        cases hj : σ[src[i]]? with
        | none => rw [hj] at e2; exact absurd (Option.some.inj e2) (by simp)
        | some z => rw [hj] at e2; exact congrArg some (Option.some.inj e2)
      obtain ⟨x, g1, g2, g3⟩ := L.cap i _ (List.getElem?_eq_getElem hi)
      have ex : x = y := Option.some.inj (g1.symm.trans e1)
      subst ex
      obtain ⟨m, hm, hl⟩ := I.loc
      have fr := L.free _ (PySem.mem_of_lookup g3) rfl
      obtain ⟨z, rz, lk⟩ := hl _ x w g2 e4 (fr.elim (fun k => .inr (.inl k)) fun k => .inr (.inr k))
      refine ⟨z, rz, .inr ⟨.inr g3, ?_⟩⟩
      obtain ⟨d, hd⟩ := clo g3
      refine ⟨d, hd, ?_⟩
      rcases lk with ⟨k, _⟩ | ⟨_, d', e', cl⟩
      · have k : X.env.scope.names.lookup x = some .local := k
        rcases fr with q | q <;> rw [show X.env.scope.names.lookup x = _ from q] at k <;> cases k
      · have := own hd
        rw [e'] at this
        cases this
        exact cl.keeps kp
    · subst hi
      have ey : p = y := Option.some.inj (L.last.symm.trans e1)
      subst ey
      rw [List.getElem?_append_right (by simp)] at e2
      simp only [List.length_map, Nat.sub_self, List.getElem?_cons_zero, Option.some.injEq] at e2
      subst e2
      refine ⟨u, ru, .inl ⟨L.par, ?_⟩⟩
      show ([(p, u)] : List (Str × Value)).lookup p = some u
      simp
    · have : N[i]? = none := List.getElem?_eq_none (by rw [L.len]; omega)
      rw [show (LamX.lamCx (lamN X N) A outer s H E scope f c').N = N from rfl, this] at e1
      cases e1
  · obtain ⟨w, z⟩ := I.cell y c (own e)
    exact ⟨w, z.keeps kp⟩
  · show (lamV src σ v).length = N.length
    unfold lamV
    rw [List.length_append, List.length_map, L.len]
    rfl
/-- f(u), f the lambda -/
theorem lam_run {N : List Str} {src : List Nat} {p : Str} {A : Around} {scope : Scope} {params : Arguments} {body : Expr} {f c' : Addr} {pm ctv : Value} {k : Nat} {v : V} {u : Value} {tb : TE} {Q : VK} (I : Inv X pins σ H s) (L : LamP X.N X.env.scope scope N src p) (fr : A.frames = some X.stack) (hr : Room (k + 1) A)
    (hf : s.heap.get? f = some (PySem.W.kla_obj "<lambda>" (X.env.qual ++ "<lambda>") params body scope (cloFrom X.env.cells scope.names []) pm c' ctv)) (hc : H c' = some (LamX.CodeO c' (X.env.qual ++ "<lambda>")))
    (bind : ∀ (q : Str) (cl : List (Str × Addr)) (pm cv ctv u : Value), bindArgs (PySem.W.kla_fn "<lambda>" q params body scope cl pm cv ctv) ⟨[u], []⟩ = pure [(p, u)]) (ru : RelV v u)
    (hbody : ∀ (A : Around) (outer : List Env) (s : Shared) (H : Hp) (f c' : Addr), Room k (A.deeper (LamX.lamEnv X scope s.heap.objs.size f c')) → PE (LamX.lamCx (lamN X N) A outer s H (fun _ _ _ => False) scope f c') body tb)
    (h : tb (lamV src σ v) H Q) :
    codeAny (model X.prog X.w) A (.call (.ref f) ⟨[u], []⟩) (fun r t => match r with
      | .ok (.ret y) => CE X.stack X.prog X.w H s Q y t
      | .ok _ => False
      | .error e => L2.CX X.prog X.w X.stack H s (fun _ _ _ => False) e t) s := by
  obtain ⟨⟨oc, vs, t, hoc, hdc, hvc⟩, _, _⟩ := I.hok c' _ hc
  have i0 := I.env0
  have e0 : Env0 X.prog X.w X.K X.mg X.base A X.stack s H := ⟨fr, i0.mod, i0.bs, i0.bsz, i0.funs, i0.frf, i0.hok, i0.bare⟩
  refine PySem.W.kla_callFunE hr.depth hf rfl L.co L.gen rfl ⟨c', oc, vs, t, rfl, hoc, hdc, hvc⟩ ?_
  rw [bind]
  refine wpAny_pure (wpAny_newFunctionEnv L.cell (fun y hy => ?_) (fun h₁ hns hsb => ⟨I.nolimit.fresh _ hsb, ?_⟩) L.kind)
  · rw [List.mem_singleton.mp hy]
    exact L.par
  · have kp : ∀ b o, s.heap.get? b = some o → h₁.get? b = some o := fun b o e => hsb.extBut b o (Nat.ne_of_lt (Heap.lt_size e)) (Heap.get?_push_of_some _ e)
    have J := lam_in (E := fun _ _ _ => False) (f := f) (c' := c') (tk := s.toks + ([(p, u)] : List (Str × Value)).length) I L e0 hr.hd ru hns kp
    refine PySem.W.kla_codeExpr (wpAny_mono ((hbody A X.stack s H f c' (hr.deeper _)).run [] _ _ H Q J h) (fun y t' hq => ?_) fun e t' hq => hq)
    obtain ⟨z, G, J', rz, qz⟩ := hq
    exact ⟨z, G, J'.os, J'.bare, J'.base, J'.hok, rz, qz⟩
end
end FF
namespace FF
open PySem PySem.Spec PyProof.Rows L2
variable [LT]
/-! ### sorted(.., key=a lambda) -/
def KeyOf (H : Hp) (y : V) (d : PyData) : Prop := (∃ m, d = .int m ∧ y = .int m) ∨ ∃ a b q, d = .tuple [.int a, .int b] ∧ y = .ref q ∧ H q = some (.tup [.int a, .int b])
def KeyFn (kd : Int → PyData) : Prop := (∀ n, ∃ m, kd n = .int m) ∨ ∀ n, ∃ a b, kd n = .tuple [.int a, .int b]
theorem KeyFn.alike {kd : Int → PyData} (h : KeyFn kd) (ns : List Int) : PySem.W.AllAlike (ns.map kd) := PySem.W.AllAlike.of fun b b' => by
  rcases h with h | h
  · obtain ⟨m, e⟩ := h b
    obtain ⟨m', e'⟩ := h b'
    rw [e, e']
    rfl
  · obtain ⟨m, n, e⟩ := h b
    obtain ⟨m', n', e'⟩ := h b'
    rw [e, e']
    rfl
theorem KeyFn.sortable {kd : Int → PyData} (h : KeyFn kd) (ns : List Int) : PySem.W.Sortable (ns.map kd) := by
  rcases h with h | h
  · exact PySem.W.Sortable.others fun b => by
      obtain ⟨m, e⟩ := h b
      rw [e]
      exact ⟨(fun z => nomatch z), (fun _ z => nomatch z)⟩
  · exact PySem.W.Sortable.tuples fun b => by
      obtain ⟨m, n, e⟩ := h b
      exact ⟨_, _, e⟩
theorem KeyFn.flat {kd : Int → PyData} (h : KeyFn kd) (n : Int) : (kd n).depth ≤ 1 := by
  rcases h with h | h
  · obtain ⟨m, e⟩ := h n
    rw [e]
    show PyData.depth (.int m) ≤ 1
    simp [PyData.depth]
  · obtain ⟨m, k, e⟩ := h n
    rw [e]
    show PyData.depth (.tuple [.int m, .int k]) ≤ 1
    simp [PyData.depth, PyData.depthAll]
section
variable {prog : Program} {w : World} {A : Around} {E : Value → Shared → Prop}
theorem each_snoc' {α β : Type} {R : α → β → Prop} {x : α} {y : β} (h : R x y) : ∀ {as : List α} {bs : List β}, PySem.W.EachIs R as bs → PySem.W.EachIs R (as ++ [x]) (bs ++ [y])
  | _, _, .nil => .cons h .nil
  | _, _, .cons a b => .cons a (each_snoc' h b)
/-- the keys one after the other, then the sort; J: what holds behind i of them -/
theorem sk_rest {f : Value} {a kS : Addr} {e1 : Nat} {vs : List Value} {kz : List PyData} {s : Shared} {P : PySem.Fin → Shared → Prop} (J : Nat → List Value → Shared → Prop) (hlen : kz.length = vs.length) (hZ : vs.length ≤ sizeLine) (hal : PySem.W.AllAlike kz) (hsk : PySem.W.Sortable kz) (hu : ∀ d, d ∈ kz → A.units + d.depth < cLine) (hka : kS ≠ a)
    (J0 : J 0 [] s) (nk : s.heap.get? kS = some (seqObj "list" #[] 0)) (na : s.heap.get? a = some (seqObj "list" #[] e1))
    (turn : ∀ (i : Nat) (v : Value) (ks : List Value) (t : Shared), vs[i]? = some v → J i ks t → (∃ o, t.heap.get? kS = some o ∧ ∀ v, o.data ≠ .cell v) → (∃ o, t.heap.get? a = some o ∧ ∀ v, o.data ≠ .cell v) →
      wpAny (model prog w) A (call f [v]) (fun k t' => J (i + 1) (ks ++ [k]) t' ∧ (∀ o, t.heap.get? kS = some o → t'.heap.get? kS = some o) ∧ ∀ o, t.heap.get? a = some o → t'.heap.get? a = some o) (fun _ _ => False) t)
    (put : ∀ (i : Nat) (ks : List Value) (t : Shared) (h' : Heap), J i ks t → (∀ b o, b ≠ kS → t.heap.get? b = some o → h'.get? b = some o) → J i ks { t with heap := h' })
    (reads : ∀ (ks : List Value) (t : Shared), J vs.length ks t → PySem.W.EachIs (fun v k => ∃ as, Reads t.heap v k as) ks kz)
    (fin : ∀ (ks : List Value) (t : Shared) (h' : Heap) (tk : Nat) (out : List Value) (c : Nat), J vs.length ks t → (∀ b o, b ≠ a → b ≠ kS → t.heap.get? b = some o → h'.get? b = some o) → h'.get? a = some (seqObj "list" (List.toArray out) c) → PySem.W.KeyedOut false kz vs out → P (.done (.ret .none)) { t with heap := h', toks := tk }) :
    wpAny (model prog w) A (PyProof.Rows.ksk_rest a f false vs.toArray e1 (.ref kS)) P E s := by
  unfold PyProof.Rows.ksk_rest
  refine wpAny_bind (wpAny_rule ?_)
  rw [List.forIn_toArray]
  refine wpAny_bind (PyProof.Rows.ksk_fold (fun i t => ∃ (kA : Array Value) (e : Nat), J i kA.toList t ∧ kA.size = i ∧ t.heap.get? kS = some (seqObj "list" kA e) ∧ t.heap.get? a = some (seqObj "list" #[] e1)) vs 0 s ⟨#[], 0, J0, rfl, nk, na⟩ ?one ?all)
  case one =>
    rintro j x t hx ⟨kA, e, hJ, hsz, hk, ha⟩
    rw [Nat.zero_add] at hJ hsz ⊢
    have hj : j < vs.length := (List.getElem?_eq_some_iff.mp hx).1
    refine wpAny_bind (wpAny_attempt (wpAny_mono (turn j x _ t hx hJ ⟨_, hk, fun v z => by cases z⟩ ⟨_, ha, fun v z => by cases z⟩) (fun v t' hq => ?_) fun _ _ z => z.elim))
    obtain ⟨q1, q2, q3⟩ := hq
    have k2 := q2 _ hk
    have a2 := q3 _ ha
    have same := Heap.SameBut.update t'.heap kS (Obj.mapSeq (·.push v))
    obtain ⟨c2, hc2⟩ : ∃ c2, (t'.heap.update kS (Obj.mapSeq (·.push v))).get? kS = some (seqObj "list" (kA.push v) c2) := ⟨_, get?_update_seq k2 (·.push v)⟩
    have lim : kA.size ≤ sizeLine := by rw [hsz]; exact Nat.le_trans (Nat.le_of_lt hj) hZ
    refine wpAny_bind (listUpdate_at k2 rfl ?_ lim (Nat.le_trans (Nat.le_of_eq (Array.size_push ..)) (Nat.succ_le_succ lim)))
    refine wpAny_pure ⟨rfl, kA.push v, c2, ?_, ?_, hc2, (same.2 a hka.symm).trans a2⟩
    · have := put _ _ _ (t'.heap.update kS (Obj.mapSeq (·.push v))) q1 fun b o nb e => (same.2 b nb).trans e
      rw [Array.toList_push]
      exact this
    · rw [Array.size_push, hsz]
  case all =>
    rintro t ⟨kA, e, hJ, hsz, hk, ha⟩
    rw [Nat.zero_add] at hJ hsz
    have rd := reads _ _ hJ
    refine wpAny_bind (listItems_at hk rfl ?_)
    refine PySem.W.keyH_end (κ := PySem.W.dataKind t.heap kz) (h₁ := PySem.W.hideAll t.heap [kS]) (fun b o _ z => PySem.W.of_hideAll [kS] z) (PySem.W.hideAll_none [kS] (List.mem_singleton.mpr rfl)) hk ha hka (PySem.W.SortsAt.data rd hal hsk hu) hsz hZ fun h' tk c kp hc => ?_
    exact fin _ _ h' tk _ c hJ (fun b o nb nk z => kp b o nb (PySem.W.hideAll_get [kS] z fun m => nk (List.mem_singleton.mp m))) hc ⟨t.heap, kA.toList, hal, rfl, rd⟩
end
section
variable {X : Cx} {pins : List (Addr × Obj)} {σ : L2.St} {H : Hp} {s : Shared}
/-- what holds while the keys are asked: the frame, the wish Pv, the lambda as it was made, the keys so far -/
def SkJ (X : Cx) (pins : List (Addr × Obj)) (σ : L2.St) (Pv : Hp → Prop) (f c' kS a : Addr) (fo : Obj) (q : Str) (kz : List PyData) (i : Nat) (ks : List Value) (t : Shared) : Prop :=
  ∃ G, Inv X pins σ G t ∧ Pv G ∧ G kS = none ∧ G a = none ∧ G f = none ∧ t.heap.get? f = some fo ∧ G c' = some (LamX.CodeO c' q) ∧ PySem.W.EachIs (fun v d => ∃ y, RelV y v ∧ KeyOf G y d) ks (kz.take i)
theorem KeyOf.reads {y : V} {v : Value} {d : PyData} (I : Inv X pins σ H s) (r : RelV y v) (h : KeyOf H y d) : ∃ as, Reads s.heap v d as := by
  rcases h with ⟨m, rfl, rfl⟩ | ⟨a, b, q, rfl, rfl, hq⟩
  · exact Dp.reads I (.int m) (.int m) v (.int m) r
  · exact Dp.reads I _ (.ref q) v (.tup (sqT_of hq) (.cons (.int _) (.cons (.int _) .nil))) r
theorem KeyOf.un {fs ex : List Addr} {H H' : Hp} {h h' : Heap} {y : V} {d : PyData} (u : Un fs ex H H' h h') (k : KeyOf H y d) : KeyOf H' y d := by
  rcases k with k | ⟨a, b, q, e1, e2, hq⟩
  · exact .inl k
  · exact .inr ⟨a, b, q, e1, e2, u.tups _ _ hq⟩
/-- addresses that are younger than a frame's state are nobody's -/
structure Yng (X : Cx) (pins : List (Addr × Obj)) (b : Addr) : Prop where
  old : X.s_0.heap.objs.size ≤ b
  loc : b ≠ X.env.locals
  cel : ∀ x c, X.env.cells.lookup x = some c → c ≠ b
  pin : ∀ p ∈ X.pn ++ pins, p.1 ≠ b
  stk : b ∉ frs X.stack
theorem Yng.of (I : Inv X pins σ H s) {b : Addr} (h : s.heap.objs.size ≤ b) : Yng X pins b where
  old := Nat.le_trans I.sz h
  loc := fun z => by
    have h1 := I.lt
    rw [← z] at h1
    exact absurd (Nat.lt_of_lt_of_le h1 h) (Nat.lt_irrefl _)
  cel := fun x c e z => by
    obtain ⟨v, hv⟩ := I.cell x c e
    have h1 := hv.lt
    rw [z] at h1
    exact absurd (Nat.lt_of_lt_of_le h1 h) (Nat.lt_irrefl _)
  pin := fun p hp z => by
    have h1 := Heap.lt_size (I.pin p hp).1
    rw [z] at h1
    exact absurd (Nat.lt_of_lt_of_le h1 h) (Nat.lt_irrefl _)
  stk := fun z => by
    rcases List.mem_cons.mp (I.stkSub _ z) with e | e
    · have h1 := I.lt
      rw [← e] at h1
      exact absurd (Nat.lt_of_lt_of_le h1 h) (Nat.lt_irrefl _)
    · exact I.nofs h e
theorem inv_put_young (I : Inv X pins σ H s) {b : Addr} {h' : Heap} {tk : Nat} (y : Yng X pins b) (n : H b = none) (k : ∀ d o, d ≠ b → s.heap.get? d = some o → h'.get? d = some o) : Inv X pins σ H { s with heap := h', toks := tk } :=
  I.turned k n y.loc (.inr y.old) y.cel y.pin
/-- the list at a, sorted, is told from now on; kS is forgotten -/
theorem inv_told_list (I : Inv X pins σ H s) {a kS : Addr} {xs : List V} {its : List Value} {c : Nat} {h' : Heap} {tk : Nat} (ya : Yng X pins a) (yk : Yng X pins kS) (na : H a = none) (nk : H kS = none)
    (k : ∀ d o, d ≠ a → d ≠ kS → s.heap.get? d = some o → h'.get? d = some o) (ha : h'.get? a = some (seqObj "list" its.toArray c)) (r : Vals xs its) (hz : xs.length ≤ sizeLine) :
    Inv X pins σ (upd H a (.lst xs)) { s with heap := h', toks := tk } := by
  have tr : ∀ b u, H b = some u → b ≠ a ∧ b ≠ kS := fun b u e => ⟨fun z => (by rw [z, na] at e; cases e), fun z => (by rw [z, nk] at e; cases e)⟩
  have nn : ∀ {b : Addr}, b ∉ [a, kS] → b ≠ a ∧ b ≠ kS := fun {b} h => ⟨fun z => h (z ▸ List.mem_cons_self), fun z => h (z ▸ List.mem_cons_of_mem _ List.mem_cons_self)⟩
  refine I.step (g' := s.gens) (d' := s.drawn) (ch := [a, kS]) (fun b hb => ?_) (fun b o _ _ hb e _ => k b o (nn hb).1 (nn hb).2 e) (fun b o _ _ hb e _ => ⟨o.slots, k b o (nn hb).1 (nn hb).2 e⟩) (fun b o hb e z => by rw [upd_ne (nn hb).1]; exact z)
    (fun b o hb e => ⟨o, k b o (nn hb).1 (nn hb).2 e⟩) (fun b ys e => by rw [upd_ne (tr b _ e).1]; exact e) (fun b o u e => by rw [upd_ne (tr b _ e).1]; exact e) (fun b ps e => ⟨#[], by rw [upd_ne (tr b _ e).1, e]; simp⟩) (fun m hm => ?_) (fun b u e => ?_) I.bare
  · rcases List.mem_cons.mp hb with z | z
    · rw [z]
      exact ⟨.inr ya.old, ya.loc, ya.cel, ya.pin⟩
    · rw [List.mem_singleton.mp z]
      exact ⟨.inr yk.old, yk.loc, yk.cel, yk.pin⟩
  · obtain ⟨ob, es, ep, ho, z⟩ := hm
    exact ⟨ob, es, ep, k _ ob ya.loc.symm yk.loc.symm ho, z⟩
  · by_cases hb : b = a
    · rw [hb, upd_same] at e
      cases e
      rw [hb]
      exact ⟨hz, its, c, r, ha⟩
    · rw [upd_ne hb] at e
      refine (I.hok b u e).stay (fun d v hd q => ?_) (fun d q => by rw [upd_ne (tr d _ q).1]; exact q) fun d ys q => by rw [upd_ne (tr d _ q).1]; exact q
      have hd2 : d ≠ a ∧ d ≠ kS := by
        rcases hd with rfl | z
        · exact ⟨hb, (tr _ _ e).2⟩
        · exact tr _ _ z
      exact k d v hd2.1 hd2.2 q
end
end FF
namespace FF
open PySem PySem.Spec PyProof.Rows L2
variable [LT]
/-! ### sorted(.., key=a lambda): the rules -/
theorem sk_each : ∀ {ns : List Int} {its : List Value}, Vals (ns.map V.int) its → PySem.W.EachIs (fun (v : Value) (n : Int) => RelV (.int n) v) its ns
  | [], _, .nil => .nil
  | _ :: _, _, .cons a b => .cons a (sk_each b)
theorem sk_vals : ∀ {ns : List Int} {its : List Value}, PySem.W.EachIs (fun (v : Value) (n : Int) => RelV (.int n) v) its ns → Vals (ns.map V.int) its
  | _, _, .nil => .nil
  | _, _, .cons a b => .cons a (sk_vals b)
section
variable {X : Cx} {pins : List (Addr × Obj)} {σ : L2.St} {H : Hp} {s : Shared}
theorem sk_sorted {N : List Str} {src : List Nat} {p : Str} {scope : Scope} {params : Arguments} {body : Expr} {arg : Value} {f c' : Addr} {pm ctv : Value} {k : Nat} {tb : TE} {ns : List Int} {kd : Int → PyData} {Q : VK} (I : Inv X pins σ H s) (hr : Room (k + 3) X.A) (L : LamP X.N X.env.scope scope N src p)
    (hf : s.heap.get? f = some (PySem.W.kla_obj "<lambda>" (X.env.qual ++ "<lambda>") params body scope (cloFrom X.env.cells scope.names []) pm c' ctv)) (hfn : H f = none) (hc : H c' = some (LamX.CodeO c' (X.env.qual ++ "<lambda>")))
    (bind : ∀ (q : Str) (cl : List (Str × Addr)) (pm cv ctv u : Value), bindArgs (PySem.W.kla_fn "<lambda>" q params body scope cl pm cv ctv) ⟨[u], []⟩ = pure [(p, u)])
    (hbody : ∀ (A : Around) (outer : List Env) (s : Shared) (H : Hp) (f c' : Addr), Room k (A.deeper (LamX.lamEnv X scope s.heap.objs.size f c')) → PE (LamX.lamCx (lamN X N) A outer s H (fun _ _ _ => False) scope f c') body tb)
    (col : ∀ (R : List Value → Shared → Prop) (E : Value → Shared → Prop), (∀ h' tk its, (∀ b o, s.heap.get? b = some o → h'.get? b = some o) → Vals (ns.map V.int) its → R its { s with heap := h', toks := tk }) → wpAny (model X.prog X.w) X.A.in1 (collect arg) R E s)
    (hz : ns.length ≤ sizeLine) (kf : KeyFn kd) (fr : f ∉ frs X.stack) (h1 : ∀ n ∈ ns, ∀ G, Ke H G → tb (lamV src σ (.int n)) G fun y G' => Ke G G' ∧ KeyOf G' y (kd n))
    (h2 : ∀ G q, Ke H G → G q = none → Q (.ref q) (upd G q (.lst ((ns.mergeSort (PySem.W.dataLe false kd)).map V.int)))) {E : Value → Shared → Prop} :
    wpAny (model X.prog X.w) X.A (call (.builtin "sorted") [arg] [(Str.ofString "key", .ref f)]) (EP X pins σ Q) E s := by
  refine PyProof.Rows.call_function_entry_kw kind_sorted plain_sorted entry_sorted (PyProof.Rows.ksk_s1 _ _) ?_
  unfold Builtin.«sorted»
  refine wpAny_bind (m := checkCount "sorted" 1 1 _) (wpAny_pure (wpAny_bind (col _ _ fun hp tk its keep rv => ?_)))
  have hi : its.length = ns.length := by rw [← rv.length, List.length_map]
  refine wpAny_bind (wpAny_newList ?_ (by rw [hi]; exact hz))
  have I1 : Inv X pins σ H { s with heap := hp, toks := tk } := I.kept keep
  obtain ⟨a, ea⟩ : ∃ a, a = hp.objs.size := ⟨_, rfl⟩
  have at1 : (hp.push (seqObj "list" its.toArray 0)).get? a = some (seqObj "list" its.toArray 0) := by rw [ea]; exact Heap.get?_push_size _ rfl
  have lim : its.length ≤ sizeLine := by rw [hi]; exact hz
  show wpAny (model X.prog X.w) X.A.in1 _ _ _ { s with heap := hp.push (seqObj "list" its.toArray 0), toks := tk }
  rw [← ea]
  refine wpAny_bind (wpAny_holding (wpAny_call_entry_kw slot_list_sort ⟨_, at1, rfl⟩ entry_list_sort ?_ (PyProof.Rows.ksk_l1 _ _)))
  rw [PyProof.Rows.ksk_t1]
  unfold PyProof.Rows.ksk_tree
  have same := Heap.SameBut.update (hp.push (seqObj "list" its.toArray 0)) a (Obj.mapSeq fun _ => (#[] : Array Value))
  obtain ⟨e1, at2⟩ : ∃ e1, ((hp.push (seqObj "list" its.toArray 0)).update a (Obj.mapSeq fun _ => (#[] : Array Value))).get? a = some (seqObj "list" #[] e1) := ⟨_, get?_update_seq at1 fun _ => #[]⟩
  refine wpAny_bind (listItems_at at1 rfl ?_)
  refine wpAny_bind (listUpdate_at at1 rfl ?_ (by rw [List.size_toArray]; exact lim) (Nat.zero_le _))
  refine wpAny_bind (seqEpoch_at at2 rfl ?_)
  refine wpAny_bind (wpAny_newTuple ?_ (by show its.length ≤ _; exact lim))
  refine wpAny_bind (wpAny_newList ?_ (Nat.zero_le _))
  refine wpAny_holding ?_
  obtain ⟨h4, e4⟩ : ∃ h4, h4 = ((hp.push (seqObj "list" its.toArray 0)).update a (Obj.mapSeq fun _ => (#[] : Array Value))).push (seqObj "tuple" its.toArray 0) := ⟨_, rfl⟩
  obtain ⟨kS, ek⟩ : ∃ kS, kS = h4.objs.size := ⟨_, rfl⟩
  have sz4 : h4.objs.size = hp.objs.size + 2 := by rw [e4, size_push', Heap.size_update, size_push']
  have old4 : ∀ b o, hp.get? b = some o → (h4.push (seqObj "list" #[] 0)).get? b = some o := fun b o e => by
    have nb : b ≠ a := by rw [ea]; exact Nat.ne_of_lt (Heap.lt_size e)
    refine Heap.get?_push_of_some _ ?_
    rw [e4]
    exact Heap.get?_push_of_some _ ((same.2 b nb).trans (Heap.get?_push_of_some _ e))
  have I5 : Inv X pins σ H { s with heap := h4.push (seqObj "list" #[] 0), toks := tk } := I1.kept old4
  have ya : Yng X pins a := Yng.of I1 (Nat.le_of_eq ea.symm)
  have yk : Yng X pins kS := Yng.of I1 (by show hp.objs.size ≤ kS; rw [ek, sz4]; omega)
  have fa : H a = none := I1.hok.fresh (Nat.le_of_eq ea.symm)
  have fk : H kS = none := I1.hok.fresh (by show hp.objs.size ≤ kS; rw [ek, sz4]; omega)
  have na : kS ≠ a := by rw [ek, sz4, ea]; omega
  have at4 : (h4.push (seqObj "list" #[] 0)).get? a = some (seqObj "list" #[] e1) := by
    refine Heap.get?_push_of_some _ ?_
    rw [e4]
    exact Heap.get?_push_of_some _ at2
  rw [← e4]
  show wpAny (model X.prog X.w) X.A.in1.in1 (PyProof.Rows.ksk_rest a (.ref f) false its.toArray e1 (.ref h4.objs.size)) _ _ { s with heap := h4.push (seqObj "list" #[] 0), toks := tk }
  rw [← ek]
  have r1 : Room (k + 2) X.A.in1 := hr.in1
  have r2 : Room (k + 1) X.A.in1.in1 := r1.in1
  refine sk_rest (kz := ns.map kd) (SkJ X pins σ (fun G => Ke H G) f c' kS a _ (X.env.qual ++ "<lambda>") (ns.map kd)) (by rw [List.length_map]; exact hi.symm) lim (kf.alike ns) (kf.sortable ns) (fun d hd => ?_) na
    ⟨H, I5, .refl, fk, fa, hfn, old4 _ _ (keep _ _ hf), hc, .nil⟩ (by rw [ek]; exact Heap.get?_push_size _ rfl) at4 ?turn ?put ?reads ?fin
  · obtain ⟨n, _, rfl⟩ := List.mem_map.mp hd
    have := kf.flat n
    have := r2.un
    omega
  case turn =>
    rintro i v ks t hv ⟨G, J, hP, gk, ga, gf, hft, hct, hks⟩ ⟨o1, ho1, _⟩ ⟨o2, ho2, _⟩
    have hil : i < its.length := (List.getElem?_eq_some_iff.mp hv).1
    obtain ⟨n, hn⟩ : ∃ n, ns[i]? = some n := ⟨_, List.getElem?_eq_getElem (by omega)⟩
    obtain ⟨u, hu, ru⟩ := rv.get (show (ns.map V.int)[i]? = some (.int n) by rw [List.getElem?_map, hn]; rfl)
    rw [hv] at hu
    cases hu
    refine wpAny_call (codeAny_mono (lam_run J L (show X.A.in1.in1.frames = some X.stack from I.ok.frames) r2 hft hct (fun q cl pm cv ctv u => bind q cl pm cv ctv u) ru hbody (h1 n (List.mem_of_getElem? hn) G hP)) fun r t' hq => ?_)
    cases r with
    | error e =>
      obtain ⟨_, _, _, _, _, _, _, _, _, _, _, _, z⟩ := hq
      exact z
    | ok fl =>
      cases fl with
      | next => exact hq
      | brk => exact hq
      | cont => exact hq
      | ret y =>
        obtain ⟨x, G', os, bare, un, hok, rx, kG, hk'⟩ := hq
        have J' : Inv X pins σ G' t' := J.call' (ch := []) os un hok bare fun b hb => nomatch hb
        have kp : ∀ b o, t.heap.get? b = some o → G b = none → b ∉ frs X.stack → t'.heap.get? b = some o ∧ G' b = none := fun b o e n z => ⟨un.keep b o e n z (fun z => nomatch z), un.free b o e n (fun z => nomatch z)⟩
        refine ⟨⟨G', J', hP.trans kG, (kp _ _ ho1 gk yk.stk).2, (kp _ _ ho2 ga ya.stk).2, (kp _ _ hft gf fr).2, (kp _ _ hft gf fr).1, ?_, ?_⟩, fun o e => (kp _ _ e gk yk.stk).1, fun o e => (kp _ _ e ga ya.stk).1⟩
        · exact kG.at_ _ _ hct LamX.codeO_ne fun z => z
        · rw [List.take_add_one, List.getElem?_map, hn]
          exact each_snoc' ⟨x, rx, hk'⟩ (hks.mono fun v d ⟨y, r, q⟩ => ⟨y, r, q.un un⟩)
  case put =>
    rintro i ks t h' ⟨G, J, hP, gk, ga, gf, hft, hct, hks⟩ hk
    refine ⟨G, inv_put_young J yk gk hk, hP, gk, ga, gf, hk _ _ (fun z => ?_) hft, hct, hks⟩
    have lt : f < hp.objs.size := Heap.lt_size (keep f _ hf)
    exact absurd lt (Nat.not_lt.mpr (by rw [z, ek, sz4]; exact Nat.le_add_right _ _))
  case reads =>
    rintro ks t ⟨G, J, hP, gk, ga, gf, hft, hct, hks⟩
    rw [List.take_of_length_le (by rw [List.length_map]; omega)] at hks
    exact hks.mono fun v d ⟨y, r, q⟩ => q.reads J r
  case fin =>
    rintro ks t h' tk' out c ⟨G, J, hP, gk, ga, gf, hft, hct, hks⟩ kp ha ho
    have eo := PySem.W.keyedOut_each (R := fun (v : Value) (n : Int) => RelV (.int n) v) kd ho (sk_each rv)
    refine ⟨_, rfl, wpAny_pure ⟨_, rfl, .ref a, _, inv_told_list J ya yk ga gk kp ha (sk_vals eo) ?_, rfl, h2 G a hP ga⟩⟩
    rw [List.length_map, List.length_mergeSort]
    exact hz
end
end FF
namespace FF
open PySem PySem.Spec PyProof.Rows L2
variable [LT]
/-! ### sorted(list, key=a lambda), sorted(range(..), key=a lambda) -/
/-- what is asked of the keys, and what is told: H2, the heap behind the lambda's making -/
def SkAsk (lt : List (Addr × Str)) (tb : TE) (src : List Nat) (σ : L2.St) (H1 : Hp) (ns : List Int) (Q : VK) : Prop := ∃ kd : Int → PyData, KeyFn kd ∧ ns.length ≤ 100000 ∧ LTabs lt H1 ∧ ∀ H2, Kl lt H1 H2 → LTabs lt H2 →
  (∀ n ∈ ns, ∀ G, Ke H2 G → tb (lamV src σ (.int n)) G fun y G' => Ke G G' ∧ KeyOf G' y (kd n)) ∧ ∀ G q, Ke H2 G → G q = none → Q (.ref q) (upd G q (.lst ((ns.mergeSort (PySem.W.dataLe false kd)).map V.int)))
def tSkL (K : PySem.W.Frag) (lt : List (Addr × Str)) (te tb : TE) (src : List Nat) : TE := fun σ H Q => te σ H fun x H1 => ∃ l ns, x = .ref l ∧ SqL K H1 l (ns.map V.int) ∧ SkAsk lt tb src σ H1 ns Q
section
variable {X : Cx} {lt : List (Addr × Str)} {c P : Addr} {N : List Str} {src : List Nat} {p : Str} {scope : Scope} {params : Arguments} {body e : Expr} {k : Nat} {te tb : TE} {p1 lpos kpos pos : Pos}
theorem pe_skL {K : PySem.W.Frag} (eK : X.K = K) (hr : Room (k + 3) X.A) (hg : Gl X "sorted") (hm : X.mg "sorted" = none) (ok : LtOk lt) (TB : LamX.TabB X.base X.mg c P) (hcode : X.env.code = .ref c) (hP : (P, X.env.qual ++ "<lambda>") ∈ lt) (L : LamP X.N X.env.scope scope N src p)
    (hdef : defaultsOf params X.env = ([], [])) (bind : ∀ (q : Str) (cl : List (Str × Addr)) (pm cv ctv u : Value), bindArgs (PySem.W.kla_fn "<lambda>" q params body scope cl pm cv ctv) ⟨[u], []⟩ = pure [(p, u)]) (he : PE X e te)
    (hbody : ∀ (A : Around) (outer : List Env) (s : Shared) (H : Hp) (f c' : Addr), Room k (A.deeper (LamX.lamEnv X scope s.heap.objs.size f c')) → PE (LamX.lamCx (lamN X N) A outer s H (fun _ _ _ => False) scope f c') body tb)
    (hst : backTo pos (starEach [e] X.env) = (false, eval e X.env) :: backTo pos (starEach [] X.env) := by rfl) (hpl : (backTo pos (starEach [e] X.env)).any (·.1) = false := by rfl)
    (hall : (backToKw pos (keywordEach [⟨some "key", .Lambda params body scope lpos, kpos⟩] X.env)).all (·.1.isSome) = true := by rfl) (hnone : (backToKw pos (keywordEach [⟨some "key", .Lambda params body scope lpos, kpos⟩] X.env)).any (·.1.isNone) = false := by rfl)
    (hks : (backToKw pos (keywordEach [⟨some "key", .Lambda params body scope lpos, kpos⟩] X.env)).filterMap (·.1) = [Str.ofString "key"] := by rfl) :
    PE X (.Call (.Name "sorted" p1) [e] [⟨some "key", .Lambda params body scope lpos, kpos⟩] pos) (tSkL K lt te tb src) := by
  subst eK
  refine ⟨fun pins s σ H Q I h => ?_⟩
  refine wpAny_Call_Name_kw (ld_blt I hg hm PyProof.Rows.boot_sorted ?_)
  refine PyProof.Rows.callWith_kw ?_ hst hpl hall hnone
  rw [hst]
  show wpAny _ _ (spliced ((false, eval e X.env) :: backTo pos (starEach [] X.env))) _ _ s
  refine Calls.spliced_cons (thn (he.run pins s σ H _ I h) fun u s1 ⟨x, H1, I1, r1, l, ns, hx, hl, kd, kf, hz, hT, q⟩ => Calls.spliced_nil ?_)
  subst hx
  obtain rfl : u = Value.ref l := r1
  show wpAny _ _ (evalAll ((do let v ← eval (.Lambda params body scope lpos) X.env; standAt pos; pure v) :: (backToKw pos (keywordEach [] X.env)).map (·.2))) _ _ s1
  refine wpAny_evalAll_cons (wpAny_bind (lam_make3 ok I1 TB hcode hP hT hdef (fun y hy e => (L.free y hy e).elim (fun z => I1.ok.has _ (.inl z)) fun z => I1.ok.has _ (.inr z)) fun f c' pm ctv G t J keep hTG kl young nf hf hc => wpAny_bind (wpAny_standAt (wpAny_pure (wpAny_evalAll_nil ?_)))))
  rw [hks]
  obtain ⟨q1, q2⟩ := q G kl hTG
  have hlG : SqL X.K G l (ns.map V.int) := by
    rcases hl with (hl | ⟨o, hl⟩) | hl
    · exact .inl (.inl (kl.at' hT hl fun _ z => nomatch z))
    · exact .inl (.inr ⟨o, kl.at' hT hl fun _ z => nomatch z⟩)
    · exact .inr hl
  obtain ⟨its, rv, hpl', hlen⟩ := J.list hlG
  refine sk_sorted (kd := kd) J hr L hf nf hc bind hbody (fun R E cont => ?_) (by rw [sizeLine_eq]; omega) kf (Yng.of I1 young).stk q1 q2
  obtain ⟨o, n, ho, hc1, hc2, hc3⟩ := hpl'
  refine collect_list (vs := its) ⟨o, ho, hc1, n, hc3⟩ (cont _ t.toks its (fun b o e => ?_) rv) (by rw [← rv.length]; exact hlen)
  rw [Heap.get?_update_ne _ _ _ _ (Nat.ne_of_lt (Heap.lt_size e))]
  exact Heap.get?_push_of_some _ e
end
end FF
namespace FF
open PySem PySem.Spec PyProof.Rows L2
variable [LT]
/-! ### ties in the order of cheapness, laid one after the other -/
def prI (ps : List Int) (i : Nat) : Int := ps.getD i 0
/-- i is cheaper than j -/
def chB (ps : List Int) (i j : Nat) : Prop := prI ps i < prI ps j ∨ (prI ps i = prI ps j ∧ i < j)
instance (ps : List Int) (i j : Nat) : Decidable (chB ps i j) := by unfold chB; exact inferInstance
def kdP (ps : List Int) (n : Int) : PyData := .tuple [.int (ps.getD n.toNat 0), .int n]
theorem kdP_fn (ps : List Int) : KeyFn (kdP ps) := .inr fun n => ⟨_, _, rfl⟩
def ordI (ps : List Int) : List Int := ((List.range ps.length).map fun (i : Nat) => (0 : Int) + (i : Nat)).mergeSort (PySem.W.dataLe false (kdP ps))
def ordN (ps : List Int) : List Nat := (ordI ps).map Int.toNat
theorem kdP_le (ps : List Int) : PySem.W.dataLe false (kdP ps) = fun p q => decide (ps.getD p.toNat 0 < ps.getD q.toNat 0 ∨ (ps.getD p.toNat 0 = ps.getD q.toNat 0 ∧ p ≤ q)) := PySem.W.dataLe_ii (fun n : Int => ps.getD n.toNat 0) fun n => n
theorem ordI_perm (ps : List Int) : (ordI ps).Perm ((List.range ps.length).map fun (i : Nat) => (i : Int)) := by
  refine (List.mergeSort_perm _ _).trans ?_
  rw [show (fun (i : Nat) => (0 : Int) + (i : Nat)) = fun (i : Nat) => (i : Int) from funext fun i => Int.zero_add _]
theorem ordI_mem {ps : List Int} {x : Int} : x ∈ ordI ps ↔ 0 ≤ x ∧ x < (ps.length : Int) := by
  rw [(ordI_perm ps).mem_iff, List.mem_map]
  constructor
  · rintro ⟨i, hi, rfl⟩
    have := List.mem_range.mp hi
    omega
  · rintro ⟨h0, h1⟩
    exact ⟨x.toNat, List.mem_range.mpr (by omega), by omega⟩
theorem ordI_up (ps : List Int) : (ordI ps).Pairwise fun p q => ps.getD p.toNat 0 < ps.getD q.toNat 0 ∨ (ps.getD p.toNat 0 = ps.getD q.toNat 0 ∧ p ≤ q) := by
  unfold ordI
  rw [kdP_le]
  refine (List.pairwise_mergeSort (fun a b c h1 h2 => ?_) (fun a b => ?_) _).imp fun h => of_decide_eq_true h
  · have h1 := of_decide_eq_true h1
    have h2 := of_decide_eq_true h2
    refine decide_eq_true ?_
    omega
  · rw [Bool.or_eq_true, decide_eq_true_eq, decide_eq_true_eq]
    omega
theorem ordI_cast (ps : List Int) : ordI ps = (ordN ps).map fun (i : Nat) => (i : Int) := by
  unfold ordN
  rw [List.map_map]
  refine (List.map_id _).symm.trans (List.map_congr_left fun x hx => ?_)
  have := (ordI_mem.mp hx).1
  show x = ((x.toNat : Nat) : Int)
  omega
theorem ordN_perm (ps : List Int) : (ordN ps).Perm (List.range ps.length) := by
  have h := (ordI_perm ps).map Int.toNat
  rw [List.map_map] at h
  have e : (List.range ps.length).map (Int.toNat ∘ fun (i : Nat) => (i : Int)) = List.range ps.length := (List.map_congr_left fun i _ => Int.toNat_natCast i).trans (List.map_id _)
  rw [e] at h
  exact h
theorem ordN_mem {ps : List Int} {i : Nat} : i ∈ ordN ps ↔ i < ps.length := by rw [(ordN_perm ps).mem_iff, List.mem_range]
theorem ordN_nd (ps : List Int) : (ordN ps).Nodup := (ordN_perm ps).nodup_iff.mpr List.nodup_range
theorem ordN_up (ps : List Int) : (ordN ps).Pairwise (chB ps) := by
  have h := ordI_up ps
  rw [ordI_cast, List.pairwise_map] at h
  refine (h.and (ordN_nd ps)).imp fun {a b} ⟨h1, h2⟩ => ?_
  simp only [Int.toNat_natCast] at h1
  unfold chB prI
  omega
theorem ordN_len (ps : List Int) : (ordN ps).length = ps.length := (ordN_perm ps).length_eq.trans List.length_range
/-- what stands ahead of i are just those cheaper than i -/
theorem ordN_pre {ps : List Int} {pre post : List Nat} {i : Nat} (h : ordN ps = pre ++ i :: post) : pre.Perm ((List.range ps.length).filter fun j => decide (chB ps j i)) := by
  have up := ordN_up ps
  have nd := ordN_nd ps
  rw [h] at up nd
  obtain ⟨u1, u2, u3⟩ := List.pairwise_append.mp up
  obtain ⟨n1, n2, n3⟩ := List.nodup_append.mp nd
  refine (List.perm_ext_iff_of_nodup n1 (List.nodup_range.filter _)).mpr fun j => ?_
  rw [List.mem_filter, decide_eq_true_eq, List.mem_range]
  constructor
  · intro hj
    refine ⟨ordN_mem.mp (by rw [h]; exact List.mem_append_left _ hj), u3 j hj i List.mem_cons_self⟩
  · rintro ⟨hl, hc⟩
    have hm : j ∈ pre ++ i :: post := by rw [← h]; exact ordN_mem.mpr hl
    rcases List.mem_append.mp hm with z | z
    · exact z
    · exfalso
      rcases List.mem_cons.mp z with rfl | z
      · unfold chB at hc
        omega
      · have := (List.pairwise_cons.mp u2).1 j z
        unfold chB at hc this
        omega
/-! the ties of numbers, those laid among them -/
def tsN (ts : List (Int × Int)) (l : List Nat) : List (Int × Int) := l.map fun i => ts.getD i (0, 0)
def ldN (ws : List V) (l : List Nat) : List Nat := l.filter fun i => !decide (ws.getD i .non = V.non)
theorem ldN_mem {ws : List V} {l : List Nat} {i : Nat} : i ∈ ldN ws l ↔ i ∈ l ∧ ws.getD i .non ≠ V.non := by
  unfold ldN
  rw [List.mem_filter]
  simp
theorem getD_non {ws : List V} {i : Nat} (hi : i < ws.length) : ws.getD i .non = V.non ↔ ws[i]? = some .non := by
  rw [List.getD_eq_getElem?_getD, List.getElem?_eq_getElem hi]
  simp
theorem laidT_tsN : ∀ {ts : List (Int × Int)} {ws : List V}, ws.length = ts.length → laidT ts ws = tsN ts (ldN ws (List.range ts.length)) := by
  intro ts ws hl
  have h := pick_laid hl ts.length (Nat.le_refl _)
  rw [List.take_length, List.take_of_length_le (by omega)] at h
  rw [← h]
  unfold pick laidM tsN ldN upTo
  rw [Int.toNat_natCast, List.filter_map, List.map_map]
  rfl
theorem tsN_perm {ts : List (Int × Int)} {l m : List Nat} (h : l.Perm m) : (tsN ts l).Perm (tsN ts m) := h.map _
/-- no lot has more laid ties within than its forests hold -/
theorem LayK.most {ts : List (Int × Int)} {k : Int} {ws : List V} (hL : LayK ts k ws) (hk : 0 ≤ k) {ls : List Int} (hn : ls.Nodup) (hne : ls ≠ []) : (inside ls (laidT ts ws) : Int) ≤ k * ((ls.length : Int) - 1) := by
  have e := inside_laid ls hL.len hL.each
  rw [e]
  have hm := sum_most (s := (ls.length : Int) - 1) (g := fun f => (inside ls (layerOf ts ws f) : Int)) (l := upTo k) fun f _ => by
    have := inside_forest (hL.tree f) hn hne
    show (inside ls (layerOf ts ws f) : Int) ≤ _
    omega
  have hl : ((upTo k).length : Int) = k := by rw [upTo_length]; omega
  rw [hl] at hm
  exact hm.1
/-! the law's own: each tie, in the order, that can be laid with those taken ahead -/
def greF (n : Nat) (ts : List (Int × Int)) (k : Int) : List Nat → List Nat → List Nat
  | acc, [] => acc
  | acc, i :: l => greF n ts k (if canF n (tsN ts (acc ++ [i])) k = true then acc ++ [i] else acc) l
theorem inside_tsN_snoc {ls : List Int} {ts : List (Int × Int)} {l : List Nat} {i : Nat} (h1 : (tk ts (i : Int)).1 ∈ ls) (h2 : (tk ts (i : Int)).2 ∈ ls) : inside ls (tsN ts (l ++ [i])) = inside ls (tsN ts l) + 1 := by
  unfold tsN
  rw [List.map_append]
  have e : tk ts (i : Int) = ts.getD i (0, 0) := by
    unfold tk
    rw [Int.toNat_natCast]
  rw [e] at h1 h2
  exact inside_snoc h1 h2
end FF
namespace FF
open PySem PySem.Spec PyProof.Rows L2
variable [LT]
/-! ### (p, i) < (q, j), (p, i) > (q, j) -/
def lexI (a b c d : Int) : Bool := decide (a < c ∨ (a = c ∧ b < d))
def rLtP (K : PySem.W.Frag) : R2 := fun x y H Q => ∃ (a b : Addr) (p q r s : Int), x = .ref a ∧ y = .ref b ∧ SqT K H a [.int p, .int q] ∧ SqT K H b [.int r, .int s] ∧ Q (.bl (lexI p q r s)) H
theorem lexAt_lt (p q r s : Int) : Ob.lexAt (fun j => decide (([p, q] : List Int).getD j 0 = ([r, s] : List Int).getD j 0)) (fun j => decide (([p, q] : List Int).getD j 0 < ([r, s] : List Int).getD j 0)) (decide (2 < 2)) 0 2 = lexI p q r s := by
  unfold lexI
  rw [Ob.lexAt_succ, Ob.lexAt_succ, Ob.lexAt_zero]
  show (if decide (p = r) = true then (if decide (q = s) = true then _ else decide (q < s)) else decide (p < r)) = _
  by_cases h : p = r
  · rw [decide_eq_true h, if_pos rfl]
    by_cases g : q = s
    · rw [decide_eq_true g, if_pos rfl]
      symm
      rw [decide_eq_false (p := (2 : Nat) < 2) (by omega)]
      exact decide_eq_false (by omega)
    · rw [decide_eq_false g, if_neg (by decide)]
      exact decide_eq_decide.mpr (by omega)
  · rw [decide_eq_false h, if_neg (by decide)]
    exact decide_eq_decide.mpr (by omega)
theorem beq_dec (a b : Int) : (a == b) = decide (a = b) := by
  by_cases h : a = b
  · rw [decide_eq_true h]
    exact beq_iff_eq.mpr h
  · rw [decide_eq_false h]
    exact beq_eq_false_iff_ne.mpr h
theorem two_at {X : Cx} {pins : List (Addr × Obj)} {σ : L2.St} {H : Hp} {s : Shared} {a : Addr} {p q : Int} (I : Inv X pins σ H s) (ha : SqT X.K H a [.int p, .int q]) : ∃ t u, s.heap.IsTuple a #[.int p t, .int q u] := by
  obtain ⟨its, r, pl, _⟩ := I.tuple ha
  have pl : s.heap.IsTuple a its.toArray := pl
  cases r with
  | cons h1 r1 =>
    cases r1 with
    | cons h2 r2 =>
      cases r2
      obtain ⟨t, e1⟩ := h1
      obtain ⟨u, e2⟩ := h2
      rw [e1, e2] at pl
      exact ⟨t, u, pl⟩
theorem two_eq {A : Around} {s : Shared} {p q r t : Int} {t1 t2 t3 t4 : Tok} : ∀ j (h1 : j < (#[Value.int p t1, .int q t2] : Array Value).size) (h2 : j < (#[Value.int r t3, .int t t4] : Array Value).size), SeqAt.EqAt A s (#[Value.int p t1, .int q t2] : Array Value)[j] (#[Value.int r t3, .int t t4] : Array Value)[j] (decide (([p, q] : List Int).getD j 0 = ([r, t] : List Int).getD j 0))
  | 0, _, _ => by
    have := SeqAt.EqAt.int_int (A := A) (s := s) p t1 r t3
    rw [beq_dec] at this
    exact this
  | 1, _, _ => by
    have := SeqAt.EqAt.int_int (A := A) (s := s) q t2 t t4
    rw [beq_dec] at this
    exact this
  | _ + 2, h, _ => absurd h (by simp)
theorem two_lt {A : Around} {s : Shared} {p q r t : Int} {t1 t2 t3 t4 : Tok} : ∀ j (h1 : j < (#[Value.int p t1, .int q t2] : Array Value).size) (h2 : j < (#[Value.int r t3, .int t t4] : Array Value).size), decide (([p, q] : List Int).getD j 0 = ([r, t] : List Int).getD j 0) = false → Ob.RcOp .Lt A s (#[Value.int p t1, .int q t2] : Array Value)[j] (#[Value.int r t3, .int t t4] : Array Value)[j] (decide (([p, q] : List Int).getD j 0 < ([r, t] : List Int).getD j 0))
  | 0, _, _, _ => Ob.RcOp.lt_int p r t1 t3
  | 1, _, _, _ => Ob.RcOp.lt_int q t t2 t4
  | _ + 2, h, _, _ => absurd h (by simp)
theorem rc_ltP {A : Around} {s : Shared} {a b : Addr} {p q r t : Int} {t1 t2 t3 t4 : Tok} (hu : A.units < cLine) (p1 : s.heap.IsTuple a #[.int p t1, .int q t2]) (p2 : s.heap.IsTuple b #[.int r t3, .int t t4]) : Ob.RcOp .Lt A s (.ref a) (.ref b) (lexI p q r t) := by
  have R := Ob.RcOp.tuples_lt (A := A) (s := s) p1 p2 hu two_eq two_lt
  have e : (#[Value.int p t1, .int q t2] : Array Value).size = 2 := rfl
  have e' : (#[Value.int r t3, .int t t4] : Array Value).size = 2 := rfl
  rw [e, e', Nat.min_self, lexAt_lt] at R
  exact R
theorem op_ltP {X : Cx} {K : PySem.W.Frag} (hu : X.A.units < cLine) (h : X.K = K := by rfl) : OpR X (compareOp .Lt) (rLtP K) := by
  subst h
  intro pins s σ H x y v u Q I rx ry h
  obtain ⟨a, b, p, q, r, t, rfl, rfl, ha, hb, hq⟩ := h
  cases rx
  cases ry
  obtain ⟨t1, t2, p1⟩ := two_at I ha
  obtain ⟨t3, t4, p2⟩ := two_at I hb
  exact rc_ltP hu p1 p2 X.prog X.w X.xe _ ⟨.bl (lexI p q r t), H, I, rfl, hq⟩
end FF
namespace FF
open PySem PySem.Spec PyProof.Rows L2
variable [LT]
/-! ### papers of cheapest ties, of any thing -/
theorem pick_tsN {ts : List (Int × Int)} {ws : List V} (l : List Nat) : pick ts (laidM ws (l.map fun (i : Nat) => (i : Int))) = tsN ts (ldN ws l) := by
  unfold pick laidM tsN ldN
  rw [List.filter_map, List.map_map]
  rfl
def chL (ps : List Int) (m i : Nat) : List Nat := (List.range m).filter fun j => decide (chB ps j i)
/-- a reason for a left-out tie -/
def lotR (ts : List (Int × Int)) (n k : Int) (ps : List Int) (ws : List V) (i : Nat) (o : Option (List V)) : Bool := lotO n o && match o with
  | none => false
  | some xs => decide ((tk ts (i : Int)).1 ∈ intsOf xs) && decide ((tk ts (i : Int)).2 ∈ intsOf xs) && decide ((inside (intsOf xs) (tsN ts (ldN ws (chL ps ts.length i))) : Int) = k * ((xs.length : Int) - 1))
def reasB (ts : List (Int × Int)) (n k : Int) (ps : List Int) (ws : List V) (i : Nat) (H : Hp) (v : V) : Bool := if ws[i]? = some .non then lotR ts n k ps ws i (rdT H v) else decide (v = V.non)
def reasA (ts : List (Int × Int)) (n k : Int) (ps : List Int) (ws : List V) (H : Hp) (rs : List V) : Bool := decide ((rs.length : Int) = (ts.length : Int)) && ((List.range rs.length).all fun i => reasB ts n k ps ws i H (rs.getD i .non))
def cheapB (ts : List (Int × Int)) (n k : Int) (ps : List Int) (H : Hp) (v : V) : Bool := match rdT H v with
  | some [L, R] => layO ts k (rdT H L) && (match rdT H R with
    | none => false
    | some rs => reasA ts n k ps ((rdT H L).getD []) H rs)
  | _ => false
theorem DT.reas {ts : List (Int × Int)} {n k : Int} {ps : List Int} {ws : List V} {i : Nat} {H H' : Hp} {v : V} (h : DT 1 H v) (kk : Ke H H') : reasB ts n k ps ws i H' v = reasB ts n k ps ws i H v := by
  unfold reasB
  rw [h.rd kk]
theorem reasA_len {ts : List (Int × Int)} {n k : Int} {ps : List Int} {ws : List V} {H : Hp} {rs : List V} (h : (rs.length : Int) ≠ (ts.length : Int)) : reasA ts n k ps ws H rs = false := by
  unfold reasA
  rw [decide_eq_false h, Bool.false_and]
theorem reasA_no {ts : List (Int × Int)} {n k : Int} {ps : List Int} {ws : List V} {H : Hp} {rs : List V} {i : Nat} {x : V} (hi : rs[i]? = some x) (h : reasB ts n k ps ws i H x = false) : reasA ts n k ps ws H rs = false := by
  unfold reasA
  have il := (List.getElem?_eq_some_iff.mp hi).1
  have e : rs.getD i .non = x := by rw [List.getD_eq_getElem?_getD, hi]; rfl
  rw [List.all_eq_false.mpr ⟨i, List.mem_range.mpr il, by rw [e, h]; decide⟩, Bool.and_false]
theorem reasA_yes {ts : List (Int × Int)} {n k : Int} {ps : List Int} {ws : List V} {H : Hp} {rs : List V} (hl : (rs.length : Int) = (ts.length : Int)) (h : ∀ (i : Nat) x, rs[i]? = some x → reasB ts n k ps ws i H x = true) : reasA ts n k ps ws H rs = true := by
  unfold reasA
  rw [decide_eq_true hl, Bool.true_and, List.all_eq_true]
  intro i hi
  have il := List.mem_range.mp hi
  have e : rs[i]? = some (rs.getD i .non) := by rw [List.getD_eq_getElem?_getD, List.getElem?_eq_getElem il]; rfl
  exact h i _ e
theorem DT.cheap {ts : List (Int × Int)} {n k : Int} {ps : List Int} {H H' : Hp} {v : V} (h : DT 3 H v) (kk : Ke H H') : cheapB ts n k ps H' v = cheapB ts n k ps H v := by
  unfold cheapB
  rw [h.rd kk]
  rcases h with ⟨nm, h, hn⟩ | ⟨t, xs, rfl, h, _, hx⟩
  · rw [rdT_no h hn]
  · rw [rdT_tup h]
    match xs, hx with
    | [], _ => rfl
    | [_], _ => rfl
    | [L, R], hx =>
      dsimp only
      have d1 : DT (1 + 1) H L := hx L List.mem_cons_self
      have d2 : DT (1 + 1) H R := hx R (List.mem_cons_of_mem _ List.mem_cons_self)
      rw [d1.rd kk, d2.rd kk]
      rcases d2 with ⟨nm, g, hn⟩ | ⟨t2, rs, rfl, g, _, hr⟩
      · rw [rdT_no g hn]
      · rw [rdT_tup g]
        dsimp only
        congr 1
        unfold reasA
        congr 1
        refine List.all_congr rfl fun i => ?_
        by_cases hi : i < rs.length
        · exact (hr _ (List.getElem_mem hi) |> fun z => by
            have e : rs.getD i .non = rs[i] := by rw [List.getD_eq_getElem?_getD, List.getElem?_eq_getElem hi]; rfl
            rw [e]
            exact z.reas kk)
        · have e : rs.getD i .non = V.non := by rw [List.getD_eq_getElem?_getD, List.getElem?_eq_none (by omega)]; rfl
          rw [e]
          rfl
    | _ :: _ :: _ :: _, _ => rfl
/-- prices: a tuple of ints from 0 on -/
structure Prc (H : Hp) (v : V) (ps : List Int) (m : Nat) : Prop where
  at_ : ∃ a, v = .ref a ∧ H a = some (.tup (ps.map V.int))
  len : ps.length = m
theorem Prc.ke {H H' : Hp} {v : V} {ps : List Int} {m : Nat} (h : Prc H v ps m) (k : Ke H H') : Prc H' v ps m := by
  obtain ⟨⟨a, e, g⟩, hl⟩ := h
  exact ⟨⟨a, e, k.tup g⟩, hl⟩
end FF
namespace FF
open PySem PySem.Spec PyProof.Rows L2
variable [LT]
/-! ### no others that can be laid are more -/
theorem lay_tsN {ts : List (Int × Int)} {ws : List V} (h : ws.length = ts.length) (f : Int) : layerOf ts ws f = tsN ts ((List.range ts.length).filter fun i => decide (ws.getD i .non = V.int f)) := by
  unfold layerOf tsN
  have key : ∀ m, m ≤ ts.length → (((ts.take m).zip (ws.take m)).filter fun p => decide (p.2 = V.int f)).map Prod.fst = ((List.range m).filter fun i => decide (ws.getD i .non = V.int f)).map fun i => ts.getD i (0, 0) := by
    intro m
    induction m with
    | zero => exact fun _ => rfl
    | succ m ih =>
      intro hm
      have h1 : ts[m]? = some (ts.getD m (0, 0)) := by rw [List.getD_eq_getElem?_getD, List.getElem?_eq_getElem (by omega)]; rfl
      have h2 : ws[m]? = some (ws.getD m .non) := by rw [List.getD_eq_getElem?_getD, List.getElem?_eq_getElem (by omega)]; rfl
      rw [take_next h1, take_next h2, List.zip_append (by rw [List.length_take, List.length_take]; omega), List.filter_append, List.map_append, ih (by omega), List.range_succ, List.filter_append, List.map_append]
      congr 1
      show (List.filter _ [(ts.getD m (0, 0), ws.getD m .non)]).map Prod.fst = _
      rw [List.filter_cons, List.filter_cons]
      dsimp only
      split <;> rfl
  have := key ts.length (Nat.le_refl _)
  rw [List.take_length, List.take_of_length_le (by omega)] at this
  exact this
theorem getD_map_pre {α : Type} (pre : List Nat) (g : Nat → α) (d : α) (i : Nat) (hi : i < pre.length) : (pre.map g).getD i d = g (pre.getD i 0) := by
  rw [List.getD_eq_getElem?_getD, List.getElem?_map, List.getElem?_eq_getElem hi, List.getD_eq_getElem?_getD, List.getElem?_eq_getElem hi]
  rfl
theorem range_getD (pre : List Nat) : (List.range pre.length).map (fun i => pre.getD i 0) = pre := by
  refine List.ext_getElem? fun i => ?_
  rw [List.getElem?_map]
  by_cases h : i < pre.length
  · rw [List.getElem?_range h, List.getElem?_eq_getElem h]
    show some (pre.getD i 0) = _
    rw [List.getD_eq_getElem?_getD, List.getElem?_eq_getElem h]
    rfl
  · rw [List.getElem?_eq_none (by rw [List.length_range]; omega), List.getElem?_eq_none (by omega)]
    rfl
/-- the layer of picked ties -/
theorem lay_pre {ts : List (Int × Int)} {ws : List V} (pre : List Nat) (f : Int) : layerOf (tsN ts pre) (pre.map fun i => ws.getD i .non) f = tsN ts (pre.filter fun i => decide (ws.getD i .non = V.int f)) := by
  have hl : (pre.map fun i => ws.getD i .non).length = (tsN ts pre).length := by unfold tsN; rw [List.length_map, List.length_map]
  rw [lay_tsN hl]
  have e : (tsN ts pre).length = pre.length := by unfold tsN; rw [List.length_map]
  rw [e]
  conv => rhs; rw [← range_getD pre]
  unfold tsN
  rw [List.filter_map, List.map_map]
  have e1 : (List.range pre.length).filter (fun i => decide ((pre.map fun i => ws.getD i .non).getD i .non = V.int f)) = (List.range pre.length).filter ((fun i => decide (ws.getD i .non = V.int f)) ∘ fun i => pre.getD i 0) := List.filter_congr fun i hi => by
    rw [getD_map_pre pre _ _ i (List.mem_range.mp hi)]
    rfl
  rw [e1]
  refine List.map_congr_left fun i hi => ?_
  exact getD_map_pre pre (fun i => ts.getD i (0, 0)) _ i (List.mem_range.mp (List.mem_filter.mp hi).1)
theorem sub_of {l m : List Nat} (hl : l.Nodup) (hm : m.Nodup) (h : ∀ x ∈ l, x ∈ m) : ∃ l', l.Perm l' ∧ l'.Sublist m := by
  refine ⟨m.filter fun x => decide (x ∈ l), (List.perm_ext_iff_of_nodup hl (hm.filter _)).mpr fun x => ?_, List.filter_sublist⟩
  rw [List.mem_filter, decide_eq_true_eq]
  exact ⟨fun z => ⟨h x z, z⟩, fun z => z.2⟩
theorem LayK.pre {ts : List (Int × Int)} {k : Int} {ws : List V} (hL : LayK ts k ws) {pre : List Nat} (nd : pre.Nodup) (hd : ∀ i ∈ pre, i < ts.length) : LayK (tsN ts pre) k (pre.map fun i => ws.getD i .non) := by
  have hwl := hL.len
  refine ⟨by unfold tsN; rw [List.length_map, List.length_map], fun x hx => ?_, fun f => ?_⟩
  · obtain ⟨i, hi, rfl⟩ := List.mem_map.mp hx
    have il : i < ws.length := by have := hd i hi; omega
    have : ws.getD i .non ∈ ws := by
      rw [List.getD_eq_getElem?_getD, List.getElem?_eq_getElem il]
      exact List.getElem_mem il
    exact hL.each _ this
  · rw [lay_pre]
    obtain ⟨l', hp, hs⟩ := sub_of (nd.filter fun i => decide (ws.getD i .non = V.int f)) (List.nodup_range.filter fun i => decide (ws.getD i .non = V.int f)) (m := (List.range ts.length).filter fun i => decide (ws.getD i .non = V.int f)) fun x hx => by
      obtain ⟨h1, h2⟩ := List.mem_filter.mp hx
      exact List.mem_filter.mpr ⟨List.mem_range.mpr (hd x h1), h2⟩
    rw [ringlessF_perm (tsN_perm hp)]
    refine ringlessF_sub (hs.map _) ?_
    have := hL.tree f
    rw [lay_tsN hwl] at this
    exact this
theorem laidT_pre {ts : List (Int × Int)} {ws : List V} (pre : List Nat) : laidT (tsN ts pre) (pre.map fun i => ws.getD i .non) = tsN ts (ldN ws pre) := by
  unfold laidT tsN ldN
  rw [List.zip_map', List.filter_map, List.map_map]
  rfl
end FF
namespace FF
open PySem PySem.Spec PyProof.Rows L2
variable [LT]
/-- the numbers of a list -/
abbrev nV (l : List Nat) : List V := l.map fun (i : Nat) => V.int (i : Int)
theorem nV_at {l : List Nat} {j : Nat} {x : V} (h : (nV l)[j]? = some x) : ∃ i, l[j]? = some i ∧ x = .int (i : Int) := by
  rw [List.getElem?_map] at h
  obtain ⟨i, e, rfl⟩ := Option.map_eq_some_iff.mp h
  exact ⟨i, e, rfl⟩
theorem nV_snoc (l : List Nat) (i : Nat) : nV (l ++ [i]) = nV l ++ [.int (i : Int)] := by
  unfold nV
  rw [List.map_append]
  rfl
theorem tsN_take {ts : List (Int × Int)} {l : List Nat} {j i : Nat} (h : l[j]? = some i) : tsN ts (l.take (j + 1)) = tsN ts (l.take j) ++ [ts.getD i (0, 0)] := by
  unfold tsN
  rw [take_next h, List.map_append]
  rfl
theorem tsN_at {H : Hp} {rs : List V} {ts : List (Int × Int)} (hT : Ties H rs ts) {i : Nat} (hi : i < ts.length) : ∃ q, atI rs (i : Int) = some (.ref q) ∧ H q = some (.tup [.int (ts.getD i (0, 0)).1, .int (ts.getD i (0, 0)).2]) := by
  obtain ⟨q, e, h⟩ := hT.at_ (m := (i : Int)) (by omega) (by omega)
  rw [Int.toNat_natCast] at h
  exact ⟨q, e, h⟩
theorem Ties.pickN {H : Hp} {rs : List V} {us : List (Int × Int)} {q : Addr} {t : Int × Int} (h : Ties H rs us) (hq : H q = some (.tup [.int t.1, .int t.2])) : Ties H (rs ++ [.ref q]) (us ++ [t]) := h.append (.cons ⟨q, rfl, hq⟩ .nil)
theorem tsN_len (ts : List (Int × Int)) (l : List Nat) : (tsN ts l).length = l.length := List.length_map ..
end FF
namespace FF
open PySem PySem.Spec PyProof.Rows L2
variable [LT]
/-! ### none dearer -/
theorem prc_at {ps : List Int} {t : Nat} (h : t < ps.length) : atI (ps.map V.int) (t : Int) = some (.int (prI ps t)) := by
  refine atI_nat (j := t) ?_
  rw [List.getElem?_map, List.getElem?_eq_getElem h]
  unfold prI
  rw [List.getD_eq_getElem?_getD, List.getElem?_eq_getElem h]
  rfl
end FF
namespace FF
open PySem PySem.Spec PyProof.Rows L2
variable [LT]
/-! ### the told paper of cheapest ties is let by -/
theorem intsOf_int (ls : List Int) : intsOf (ls.map V.int) = ls := by
  unfold intsOf
  rw [List.map_map]
  exact (List.map_congr_left fun _ _ => rfl).trans (List.map_id _)
end FF
namespace FF
open PySem PySem.Spec PyProof.Rows L2
variable [LT]
/-! ### numbers sorted -/
theorem sorted_nV {ns' : List Int} {S : List Nat} (hp : ns'.Perm (S.map fun (i : Nat) => (i : Int))) (up : ns'.Pairwise (· ≤ ·)) (hn : S.Nodup) : ∃ M : List Nat, ns'.map V.int = nV M ∧ M.Perm S ∧ M.Pairwise (· < ·) := by
  have h0 : ∀ x ∈ ns', 0 ≤ x := fun x hx => by
    obtain ⟨i, _, rfl⟩ := List.mem_map.mp (hp.mem_iff.mp hx)
    exact Int.natCast_nonneg i
  have e : ns' = (ns'.map Int.toNat).map fun (i : Nat) => (i : Int) := by
    rw [List.map_map]
    refine (List.map_id _).symm.trans (List.map_congr_left fun x hx => ?_)
    have := h0 x hx
    show x = ((x.toNat : Nat) : Int)
    omega
  have hM : (ns'.map Int.toNat).Perm S := by
    have h := hp.map Int.toNat
    rw [List.map_map] at h
    have e : S.map (Int.toNat ∘ fun (i : Nat) => (i : Int)) = S := (List.map_congr_left fun i _ => Int.toNat_natCast i).trans (List.map_id _)
    rw [e] at h
    exact h
  refine ⟨ns'.map Int.toNat, ?_, hM, ?_⟩
  · conv => lhs; rw [e]
    unfold nV
    rw [List.map_map]
    rfl
  · have nd := hM.nodup_iff.mpr hn
    rw [e, List.pairwise_map] at up
    refine (up.and nd).imp fun {a b} ⟨h1, h2⟩ => ?_
    have : (a : Int) ≤ (b : Int) := h1
    have : a ≠ b := h2
    omega
theorem nV_map (S : List Nat) : nV S = (S.map fun (i : Nat) => (i : Int)).map V.int := by
  unfold nV
  rw [List.map_map]
  rfl
theorem drop_at {α : Type} {l : List α} {i : Nat} {x : α} (h : l[i]? = some x) : l.drop i = x :: l.drop (i + 1) := by
  obtain ⟨hi, rfl⟩ := List.getElem?_eq_some_iff.mp h
  exact List.drop_eq_getElem_cons hi
end FF
namespace FF
open PySem PySem.Spec PyProof.Rows L2
variable [LT]
/-! ### ties in another order: the same prices are laid -/
theorem LayK.can {n : Nat} {ts : List (Int × Int)} {k : Int} {ws : List V} (hL : LayK ts k ws) (hk : 0 ≤ k) : canF n (tsN ts (ldN ws (List.range ts.length))) k = true := canF_iff.mpr fun ls hls => by
  rw [← laidT_tsN hL.len]
  exact hL.most hk (hls.up.imp fun h => Int.ne_of_lt h) hls.ne
theorem tok_tsN {n : Int} {ts : List (Int × Int)} {O : List Nat} (ok : TOk n ts) (h : ∀ i ∈ O, i < ts.length) : TOk n (tsN ts O) := fun t ht => by
  obtain ⟨i, hi, rfl⟩ := List.mem_map.mp ht
  have il := h i hi
  refine ok _ ?_
  rw [List.getD_eq_getElem?_getD, List.getElem?_eq_getElem il]
  exact List.getElem_mem il
theorem shaped_Li (ls : List Int) : SeqAt.shaped (.list (ls.map PyData.int)) = true := by
  have := shaped_tints ls
  exact this
end FF
namespace FF
open PySem PySem.Spec PyProof.Rows L2
variable [LT]
/-! ### str of data: asked where no repr is under way -/
def rStrD (K : PySem.W.Frag) : List V → Hp → VK → Prop := fun vs H Q => ∃ (a : Addr) (d : PyData), vs = [.ref a] ∧ Dp K H (.ref a) d ∧ d.showable = true ∧ d.hasDict = false ∧ d.depth ≤ 60 ∧ d.shown.length ≤ sizeLine ∧ Q (.str d.shown) H
theorem cr_strD {X : Cx} {K : PySem.W.Frag} (hg : X.A.guards = some []) (hu : X.A.units + 64 < cLine) (hK : X.K = K := by rfl) : CallR X (.type "str") (rStrD K) := by
  subst hK
  intro pins s σ H vs us Q I r h
  obtain ⟨a, d, rfl, hd, h1, h2, h3, h4, q⟩ := h
  obtain ⟨u, rfl, ru⟩ := vals1 r
  obtain rfl : u = Value.ref a := ru
  obtain ⟨as, r1⟩ := Dp.reads I d _ _ hd rfl
  exact str_of_reads r1 h1 (PyData.noDict_hsm h2) hg (by omega) (fun _ _ e => e) (fun h' u tk hk => ⟨.str d.shown, H, I.kept hk, ⟨u, rfl⟩, q⟩) h4
/-! a def that is right where no repr is under way -/
structure FnOkG (P : Program) (w : World) (K : PySem.W.Frag) (mg : Str → Option Value) (base : Heap) (CX : CXT) (k : Nat) (f : Addr) (fd : FuncData) (ps : List Str) (sp : Sp) : Prop where
  few : ∀ vs H Q E, sp vs H Q E → vs.length = ps.length
  go : ∀ {A : Around} (outer : List Env) (s : Shared) (H : Hp) (args : Args) (us : List Value) (vs : List V) (Q : VK) (E : XK), A.guards = some [] → Room k A → Env0 P w K mg base A outer s H → BindsTo s fd args (ps.zip us) → Vals vs us → sp vs H Q E →
    codeAny (model P w) A (.call (.ref f) args) (CR CX outer P w H s Q E) s
theorem DefAt.okG {P : Program} {w : World} {K : PySem.W.Frag} {mg : Str → Option Value} {base : Heap} {x : Str} {st : Stmt} {f : Addr} {fd : FuncData} {N ps : List Str} {k : Nat} {sp : Sp} (D : DefAt K mg x st ps f fd) (S : FnScope N ps (defScope st)) (len : ∀ vs H Q E, sp vs H Q E → vs.length = ps.length)
    (hbody : ∀ (A : Around) (outer : List Env) (s : Shared) (H : Hp) (vs : List V) (Q : VK) (E : XK), A.guards = some [] → Room k (A.deeper (envOfC x (defScope st) s.heap.objs.size f fd.code)) → sp vs H Q E →
      ∃ t, PSs (cxOf CX0 P w K mg base N x (defScope st) f fd.code A outer s H E).nox (defBody st) t ∧ t { nx := fun _ H' => Q .non H', rt := Q } (start N vs) H) : FnOkG P w K mg base CX0 (k + 1) f fd ps sp := by
  obtain ⟨oc, od, dV, kV, doc, pm, an, cdv, ct, osl, rfl, lk, hcd, _, _⟩ := D.F.ex
  refine ⟨len, fun {A} outer s H args us vs Q E hgd hr e0 hb rv hsp => ?_⟩
  have old : ∀ b o, base.get? b = some o → s.heap.get? b = some o := fun b o e => (e0.bs b o e).1
  obtain ⟨t, ht, ask⟩ := hbody A outer s H vs Q E hgd (hr.deeper _) hsp
  have cells : ∀ y ∈ ps.zip us, (defScope st).names.lookup y.1 = some .local ∨ ((defScope st).names.lookup y.1 = some .cell ∧ ((cellsFrom (s.heap.objs.size + 1) (defScope st).names []).lookup y.1).isSome = true) := fun y hy =>
    (S.par y.1 (List.of_mem_zip (a := y.1) (b := y.2) hy).1).imp id fun z => ⟨z, PySem.W.cellsFrom_some _ _ _ (.inl z)⟩
  have kin := e0.mod.kin.keeps old
  refine codeAny_call_function hr.depth (kin _ _ lk) rfl S.co S.gen rfl (PySem.W.codeRec_of kin hcd) (hb _ _ _ _ (wpAny_newFunctionEnv_cells S.kind cells fun env he s1 into => ?_))
  subst he
  have I0 : Inv (cxOf CX0 P w K mg base N x (defScope st) f cdv A outer s H E) [] (start N vs) H s1 := inv_start S hr.hd e0 (len _ _ _ _ hsp) rv into
  refine ⟨(e0.mod.nolimit.keeps old).keeps into.toInCall.keep, codeAny_func (wpAny_mono (ht.nox.run [] s1 (start N vs) H _ I0 ask) (fun fl s' z => ?_) fun _ _ z => z)⟩
  match fl, z with
  | .ret _, ⟨v, _, H', J, ru, q⟩ => exact ⟨v, H', J.os, J.bare, J.base, J.hok, ru, q⟩
  | .next, ⟨_, H', J, q⟩ => exact ⟨.non, H', J.os, J.bare, J.base, J.hok, rfl, q⟩
  | .brk, ⟨_, _, _, q⟩ => exact q.elim
  | .cont, ⟨_, _, _, q⟩ => exact q.elim
end FF
namespace FF
open PySem PySem.Spec PyProof.Rows L2
variable [LT]
/-! ### the end of a law that asks str: it starts where no repr is under way -/
section
variable {K : PySem.W.Frag} {cs : List (Addr × Addr)} {a : Addr} {vs : List Value} {ns : List Int} {h : Heap}
open Classical in
/-- all that is tracked at a law's start: the tables, and the script's list unless it stands in the fragment -/
noncomputable def H0G (K : PySem.W.Frag) (cs : List (Addr × Addr)) (a : Addr) (vs : List Value) (ns : List Int) : Hp := fun b =>
  if (∃ p ∈ cs, p.2 = b) then some (.tbl #[]) else if b = a ∧ K.lookup a = none then some (.frz { cls := .type "list", data := .seq vs.toArray } (.lst (ns.map V.int))) else none
inductive H0Is (K : PySem.W.Frag) (cs : List (Addr × Addr)) (a : Addr) (vs : List Value) (ns : List Int) (b : Addr) : Prop
  | tab (p : Addr × Addr) (hp : p ∈ cs) (e : p.2 = b) (z : H0G K cs a vs ns b = some (.tbl #[]))
  | scr (n : ¬ ∃ p ∈ cs, p.2 = b) (e : b = a) (k : K.lookup a = none) (z : H0G K cs a vs ns b = some (.frz { cls := .type "list", data := .seq vs.toArray } (.lst (ns.map V.int))))
  | no (n : ¬ ∃ p ∈ cs, p.2 = b) (k : b = a → K.lookup a ≠ none) (z : H0G K cs a vs ns b = none)
theorem h0_is (K : PySem.W.Frag) (cs : List (Addr × Addr)) (a : Addr) (vs : List Value) (ns : List Int) (b : Addr) : H0Is K cs a vs ns b := by
  by_cases t : ∃ p ∈ cs, p.2 = b
  · obtain ⟨p, hp, e⟩ := id t
    exact .tab p hp e (if_pos t)
  · by_cases q : b = a ∧ K.lookup a = none
    · exact .scr t q.1 q.2 ((if_neg t).trans (if_pos q))
    · exact .no t (fun e z => q ⟨e, z⟩) ((if_neg t).trans (if_neg q))
theorem h0_free {b : Addr} {o : Obj} (hT : ∀ p ∈ cs, h.get? p.2 = some { cls := .none, data := .fields #[] }) (ha : h.get? a = some { cls := .type "list", data := .seq vs.toArray }) (e : h.get? b = some o) (n1 : ∀ xs m, o.data ≠ .seq xs m) (n2 : o.data ≠ .fields #[]) : H0G K cs a vs ns b = none := by
  rcases h0_is K cs a vs ns b with ⟨p, hp, pe, _⟩ | ⟨_, rfl, _, _⟩ | ⟨_, _, z⟩
  · have := hT p hp
    rw [pe, e] at this
    cases this
    exact (n2 rfl).elim
  · rw [ha] at e
    cases e
    exact (n1 _ _ rfl).elim
  · exact z
theorem h0_ns {b : Addr} {m : Str → Option Value} (hT : ∀ p ∈ cs, h.get? p.2 = some { cls := .none, data := .fields #[] }) (ha : h.get? a = some { cls := .type "list", data := .seq vs.toArray }) (n : h.Ns b m) : (hidT h (H0G K cs a vs ns)).Ns b m := by
  obtain ⟨o, es, ep, e, d, r⟩ := n
  exact ⟨o, es, ep, hidT_get e (h0_free hT ha e (fun _ _ z => by rw [d] at z; cases z) fun z => by rw [d] at z; cases z), d, r⟩
theorem h0_in (KX : K.In h) (nT : ∀ p ∈ cs, K.lookup p.2 = none) : K.In (hidT h (H0G K cs a vs ns)) := fun b o e => hidT_get (KX b o e) (by
  rcases h0_is K cs a vs ns b with ⟨p, hp, rfl, _⟩ | ⟨_, rfl, k, _⟩ | ⟨_, _, z⟩
  · rw [nT p hp] at e
    cases e
  · rw [k] at e
    cases e
  · exact z)
theorem h0_tab {mg : Str → Option Value} (hT : ∀ p ∈ cs, h.get? p.2 = some { cls := .none, data := .fields #[] }) (ha : h.get? a = some { cls := .type "list", data := .seq vs.toArray }) (hns : h.Ns mainGlobals mg) (C : ∀ p ∈ cs, PySem.W.CodeHd h p.1 p.2)
    (hbm : ∃ (bm : Addr) (ob : Obj), mg "__builtins__" = some (.ref bm) ∧ bm ≠ builtinsNs ∧ h.get? bm = some ob ∧ ob.cls = .type "module" ∧ ob.dict = some builtinsNs ∧ ob.data = .plain) : ∀ p ∈ cs, LamX.TabB (hidT h (H0G K cs a vs ns)) mg p.1 p.2 := fun p hp => by
  have tp := hT p hp
  obtain ⟨gd, es, ep, ge, gdd, _⟩ := hns
  obtain ⟨bm, ob, m1, m2, m3, m4, m5, m6⟩ := hbm
  obtain ⟨o, us, file, tf, flags, tg, inF, text, tt, c1, c2, c3, c4, rest⟩ := C p hp
  have apart : ∀ {b : Addr} {ob : Obj}, h.get? b = some ob → (∀ x, ob.data ≠ .fields x) → b ≠ p.2 := fun {b ob} e n z => by
    rw [z, tp] at e
    cases e
    exact n _ rfl
  refine ⟨⟨o, us, file, tf, flags, tg, inF, text, tt, hidT_get c1 (h0_free hT ha c1 (fun _ _ z => by rw [c3] at z; cases z) fun z => ?_), c2, c3, c4, rest⟩, ⟨bm, ob, m1, m2, fun z => ?_, apart m3 (fun x z => by rw [m6] at z; cases z), hidT_get m3 (h0_free hT ha m3 (fun _ _ z => by rw [m6] at z; cases z) fun z => by rw [m6] at z; cases z), m4, m5, m6⟩, apart ge fun x z => by rw [gdd] at z; cases z⟩
  · rw [c3] at z
    cases z
    simp at c4
  · rw [z, ge] at m3
    cases m3
    rw [gdd] at m6
    cases m6
theorem law_runG {P : Program} {w : World} {mg mb : Str → Option Value} {k : Nat} {fa : Addr} {fd : FuncData} {x : Str} {sp : Sp} {s₁ : Shared} (KX : K.In s₁.heap) (hns : s₁.heap.Ns mainGlobals mg) (hb : s₁.heap.Ns builtinsNs mb) (hbb : ∀ x : Str, x ≠ "__name__" → mb x = bootBuiltins x) (hlim : s₁.heap.NoLimit) (hg : s₁.gens = #[])
    (hT : ∀ p ∈ cs, s₁.heap.get? p.2 = some { cls := .none, data := .fields #[] }) (nT : ∀ p ∈ cs, K.lookup p.2 = none) (C : ∀ p ∈ cs, PySem.W.CodeHd s₁.heap p.1 p.2)
    (hbm : ∃ (bm : Addr) (ob : Obj), mg "__builtins__" = some (.ref bm) ∧ bm ≠ builtinsNs ∧ s₁.heap.get? bm = some ob ∧ ob.cls = .type "module" ∧ ob.dict = some builtinsNs ∧ ob.data = .plain)
    (ha : s₁.heap.get? a = some { cls := .type "list", data := .seq vs.toArray }) (hi : IntsAre vs ns) (hl : ns.length ≤ sizeLine) (hr : Room k callerA)
    (F : ∀ base : Heap, K.In base → base.Ns mainGlobals mg → (∀ p ∈ cs, LamX.TabB base mg p.1 p.2) → FnOkG P w K mg base CX0 k fa fd [x] sp) (hbind : ∀ (s : Shared) (u : Value), BindsTo s fd ⟨[u], []⟩ [(x, u)])
    (hsp : ∀ H : Hp, (∀ p ∈ cs, H p.2 = some (.tbl #[])) → SqL K H a (ns.map V.int) → sp [.ref a] H (fun v _ => v = .bl true) fun _ _ _ => False) :
    codeAny (model P w) callerA (.call (.ref fa) ⟨[.ref a], []⟩) (fun r s' => r = .ok (.ret (.bool true)) ∧ OldK s₁.heap s'.heap ∧ s'.os = s₁.os ∧ AllBare s'.gens) s₁ := by
  have rv := vals_ints hi
  have lenV := hi.length
  have notT : ¬ ∃ p ∈ cs, p.2 = a := fun ⟨p, hp, e⟩ => by
    have t := hT p hp
    rw [e, ha] at t
    have : Data.seq vs.toArray _ = Data.fields #[] := congrArg Obj.data (Option.some.inj t)
    cases this
  obtain ⟨H, hH⟩ : ∃ H, H = H0G K cs a vs ns := ⟨_, rfl⟩
  have tabs : ∀ p ∈ cs, H p.2 = some (.tbl #[]) := fun p hp => by
    rw [hH]
    rcases h0_is K cs a vs ns p.2 with ⟨_, _, _, z⟩ | ⟨n, _, _, _⟩ | ⟨n, _, _⟩
    · exact z
    · exact (n ⟨p, hp, rfl⟩).elim
    · exact (n ⟨p, hp, rfl⟩).elim
  have script : SqL K H a (ns.map V.int) := by
    rw [hH]
    rcases h0_is K cs a vs ns a with ⟨p, hp, e, _⟩ | ⟨_, _, _, z⟩ | ⟨_, k, _⟩
    · exact (notT ⟨p, hp, e⟩).elim
    · exact .inl (.inr ⟨_, z⟩)
    · cases q : K.lookup a with
      | none => exact (k rfl q).elim
      | some o =>
        have e := KX a o q
        rw [ha] at e
        cases e
        exact .inr ⟨_, vs.toArray, _, q, rfl, rfl, rfl, by rw [List.size_toArray, lenV]; exact hl, by simpa using rv⟩
  have hok : HOk P w H s₁.heap := fun b u z => by
    rw [hH] at z
    rcases h0_is K cs a vs ns b with ⟨p, hp, rfl, y⟩ | ⟨_, rfl, _, y⟩ | ⟨_, _, y⟩
    · rw [y] at z
      cases z
      exact hT p hp
    · rw [y] at z
      cases z
      exact ⟨ha, by rw [List.length_map]; exact hl, vs, _, rv, ha⟩
    · rw [y] at z
      cases z
  have KB : K.In (hidT s₁.heap H) := by rw [hH]; exact h0_in KX nT
  have nsB : ∀ {b : Addr} {m : Str → Option Value}, s₁.heap.Ns b m → (hidT s₁.heap H).Ns b m := fun n => by rw [hH]; exact h0_ns hT ha n
  have TB : ∀ p ∈ cs, LamX.TabB (hidT s₁.heap H) mg p.1 p.2 := by rw [hH]; exact h0_tab hT ha hns C hbm
  obtain ⟨mc, l1, l2⟩ := hlim
  have e0 : Env0 P w K mg (hidT s₁.heap H) callerA [] s₁ H := ⟨rfl, ⟨KB, nsB hns, ⟨mb, nsB hb, hbb⟩, ⟨mc, nsB l1, l2⟩⟩, fun _ _ e => of_hidT e, Nat.le_of_eq (hidT_size _ _), trivial, fun _ z => (List.not_mem_nil z).elim, hok, .of_eq hg⟩
  have run := (F _ KB (nsB hns) TB).go (A := callerA) [] s₁ H ⟨[.ref a], []⟩ [.ref a] [.ref a] _ _ rfl hr e0 (hbind s₁ (.ref a)) (.cons rfl .nil) (hsp H tabs script)
  refine codeAny_mono run fun r s' z => ?_
  match r, z with
  | .error _, z => exact z.elim
  | .ok .next, z => exact z.elim
  | .ok .brk, z => exact z.elim
  | .ok .cont, z => exact z.elim
  | .ok (.ret u), z =>
    obtain ⟨v, H', os, bare, un, hok', ru, (rfl : v = .bl true)⟩ := z
    obtain rfl : u = Value.bool true := ru
    refine ⟨rfl, ⟨fun b o e => ?_, fun b o e => ?_⟩, os, bare⟩
    · rcases h0_is K cs a vs ns b with ⟨p, hp, rfl, y⟩ | ⟨_, rfl, _, y⟩ | ⟨_, _, y⟩
      · obtain ⟨more, t⟩ := un.tbls p.2 #[] (hH ▸ y)
        rw [hT p hp] at e
        cases e
        exact .inr (.inl ⟨((C p hp).tab (hT p hp)).isCodeTable, rfl, #[], more, rfl, by rw [Array.empty_append]; exact hok' p.2 _ t |> fun z => by rw [Array.empty_append] at z; exact z⟩)
      · obtain ⟨e1, _⟩ := hok' b _ (un.frzs b _ _ (hH ▸ y))
        rw [ha] at e
        cases e
        exact .inl e1
      · exact .inl (un.keep b o e (hH ▸ y) (fun q => (List.not_mem_nil q).elim) fun q => (List.not_mem_nil q).elim)
    · exact un.there b o e fun q => (List.not_mem_nil q).elim
end
/-- what is known of such a law -/
def LawAtG (l : PySem.W.OpenLaw) (w : World) (K : PySem.W.Frag) (k n : Nat) (x : Str) (mg : Str → Option Value) (fa : Addr) (h : Heap) : Prop :=
  ∃ (fd : FuncData) (cs : List (Addr × Addr)) (sp : Sp), (∀ p ∈ cs, h.get? p.2 = some { cls := .none, data := .fields #[] }) ∧ (∀ p ∈ cs, K.lookup p.2 = none) ∧ (∀ p ∈ cs, PySem.W.CodeHd h p.1 p.2) ∧ (∀ (s : Shared) (u : Value), BindsTo s fd ⟨[u], []⟩ [(x, u)]) ∧
    (∀ (H : Hp) (a : Addr) (ns : List Int), ns.length ≤ n → (∀ z ∈ ns, Builtin.Int.intBits z ≤ 1048576) → (∀ p ∈ cs, H p.2 = some (.tbl #[])) → SqL K H a (ns.map V.int) → sp [.ref a] H (fun v _ => v = .bl true) fun _ _ _ => False) ∧
    ∀ base : Heap, K.In base → base.Ns mainGlobals mg → (∀ p ∈ cs, LamX.TabB base mg p.1 p.2) → FnOkG l.prog w K mg base CX0 k fa fd [x] sp
theorem walk_ofG {l : PySem.W.OpenLaw} {n k : Nat} {q : Program} {loose : List Str} {XP : (Str → Option Value) → Heap → Prop} {YP : World → Heap → Prop} {d : DefRec} {x : Str} (hn : l.most = some n) (hn2 : n ≤ sizeLine) (hdf : d.params.defaults = []) (hr : Room k callerA)
    (F : ∀ (w : World) (mg : Str → Option Value) (fa : Addr) (h : Heap), YP w h → h.Ns mainGlobals mg → mg d.name = some (.ref fa) → ∃ K : PySem.W.Frag, K.In h ∧ LawAtG l w K k n x mg fa h) : PySem.W.WalkO q loose XP YP l.row.toRowW d [] (fun f vs => PySem.call f vs) :=
  Att.attach_callB hn hdf fun w s₀ s₁ mg mb fa o pm cd doc a vs ns G Y ho hd hcd hmg hobj hints hlen hbits hg => by
    obtain ⟨K, KX, fd, cs, sp, t1, t2, t3, bd, ask, ok⟩ := F w mg fa _ Y G.T.g hmg
    exact law_runG KX G.T.g G.T.b G.T.builtins G.T.nolimit hg t1 t2 t3 G.T.bmain hobj hints (Nat.le_trans hlen hn2) hr ok bd fun H z1 z2 => ask H a ns hlen hbits z1 z2
end FF
namespace FF
open PySem PySem.Spec PyProof.Rows L2
variable [LT]
/-! ### lots of any thing -/
def badN (n : Int) (xs : List V) : List Int := (xs.filter fun x => !isNum x 0 (n - 1)).map fun _ => 1
theorem badN_nil {n : Int} {xs : List V} : badN n xs = [] ↔ ∀ x ∈ xs, isNum x 0 (n - 1) = true := by
  unfold badN
  rw [List.map_eq_nil_iff, List.filter_eq_nil_iff]
  exact forall_congr' fun x => forall_congr' fun _ => by simp
theorem badN_snoc {n : Int} {xs : List V} {x : V} : badN n (xs ++ [x]) = badN n xs ++ if isNum x 0 (n - 1) = true then [] else [1] := by
  unfold badN
  rw [List.filter_append, List.map_append]
  congr 1
  cases h : isNum x 0 (n - 1) with
  | true => rw [List.filter_cons, if_neg (by rw [h]; decide), if_pos rfl]; rfl
  | false => rw [List.filter_cons, if_pos (by rw [h]; decide), if_neg (by decide)]; rfl
theorem rising_low {n : Int} : ∀ {lo : Int} {xs : List V}, rising n lo xs = true → (intsOf xs).Pairwise (· < ·) ∧ ∀ x ∈ intsOf xs, lo ≤ x ∧ x < n
  | _, [], _ => ⟨.nil, fun _ h => nomatch h⟩
  | lo, v :: r, h => by
    cases v with
    | int i =>
      have h : (isNum (.int i) lo (n - 1) && rising n (i + 1) r) = true := h
      obtain ⟨h1, h2⟩ := Bool.and_eq_true_iff.mp h
      have h1 : (decide (lo ≤ i) && decide (i ≤ n - 1)) = true := h1
      obtain ⟨a, b⟩ := Bool.and_eq_true_iff.mp h1
      have a := of_decide_eq_true a
      have b := of_decide_eq_true b
      obtain ⟨p, q⟩ := rising_low h2
      refine ⟨List.pairwise_cons.mpr ⟨fun x hx => ?_, p⟩, fun x hx => ?_⟩
      · have := q x hx
        show i < x
        omega
      · rcases List.mem_cons.mp hx with z | hx
        · obtain rfl : x = i := z
          exact ⟨a, by omega⟩
        · have := q x hx
          omega
    | _ => cases h
theorem isNum_ints {n : Int} {xs : List V} (h : ∀ x ∈ xs, isNum x 0 (n - 1) = true) : xs = (intsOf xs).map V.int ∧ ∀ x ∈ intsOf xs, 0 ≤ x ∧ x < n := by
  induction xs with
  | nil => exact ⟨rfl, fun _ z => nomatch z⟩
  | cons v r ih =>
    obtain ⟨e, q⟩ := ih fun x hx => h x (List.mem_cons_of_mem _ hx)
    have hv := h v List.mem_cons_self
    cases v with
    | int i =>
      have hv : (decide (0 ≤ i) && decide (i ≤ n - 1)) = true := hv
      obtain ⟨a, b⟩ := Bool.and_eq_true_iff.mp hv
      have a := of_decide_eq_true a
      have b := of_decide_eq_true b
      refine ⟨?_, fun x hx => ?_⟩
      · show V.int i :: r = V.int i :: (intsOf r).map V.int
        rw [← e]
      · rcases List.mem_cons.mp hx with z | hx
        · obtain rfl : x = i := z
          exact ⟨a, by omega⟩
        · exact q x hx
    | _ => cases hv
theorem lotO_bad {n : Int} {xs : List V} (h : badN n xs ≠ []) : lotO n (some xs) = false := by
  refine Bool.eq_false_iff.mpr fun z => h (badN_nil.mpr fun x hx => ?_)
  obtain ⟨_, hr⟩ := lotO_rising z
  have e := rising_ints hr
  obtain ⟨_, q⟩ := rising_low hr
  rw [e] at hx
  obtain ⟨i, hi, rfl⟩ := List.mem_map.mp hx
  have := q i hi
  show (decide (0 ≤ i) && decide (i ≤ n - 1)) = true
  rw [decide_eq_true this.1, decide_eq_true (by omega : i ≤ n - 1)]
  rfl
theorem lotO_sorted {n : Int} {ls ns : List Int} (hne : ls ≠ []) (hr : ∀ x ∈ ls, 0 ≤ x ∧ x < n) (up : ns.Pairwise (· < ·)) (hm : ∀ k, k ∈ ns ↔ k ∈ ls) : lotO n (some (ls.map V.int)) = decide (ls = ns) := by
  by_cases c : ls = ns
  · rw [decide_eq_true c]
    exact (Lot.mk hne (c ▸ up) hr).o
  · rw [decide_eq_false c]
    refine Bool.eq_false_iff.mpr fun z => c ?_
    obtain ⟨p, _⟩ := rising_low (lotO_rising z).2
    rw [intsOf_int] at p
    have n1 : ls.Nodup := p.imp fun h => Int.ne_of_lt h
    have n2 : ns.Nodup := up.imp fun h => Int.ne_of_lt h
    exact List.Perm.eq_of_pairwise (fun a b _ _ x y => absurd x (Int.lt_asymm y)) p up ((List.perm_ext_iff_of_nodup n1 n2).mpr fun k => (hm k).symm)
/-- those cheaper than i that lie in a forest within a lot -/
def chWB (ts : List (Int × Int)) (ps : List Int) (ws : List V) (ls : List Int) (i : Nat) (f : Int) (j : Nat) : Bool := decide (ws.getD j .non = V.int f) && (decide ((ts.getD j (0, 0)).1 ∈ ls) && (decide ((ts.getD j (0, 0)).2 ∈ ls) && decide (chB ps j i)))
def chW (ts : List (Int × Int)) (ps : List Int) (ws : List V) (ls : List Int) (i : Nat) (f : Int) (m : Nat) : List Nat := (List.range m).filter (chWB ts ps ws ls i f)
theorem chW_succ {ts : List (Int × Int)} {ps : List Int} {ws : List V} {ls : List Int} {i : Nat} {f : Int} {j : Nat} : chW ts ps ws ls i f (j + 1) = chW ts ps ws ls i f j ++ if chWB ts ps ws ls i f j = true then [j] else [] := by
  unfold chW
  rw [List.range_succ, List.filter_append]
  congr 1
  by_cases c : chWB ts ps ws ls i f j = true
  · rw [if_pos c, List.filter_cons, if_pos c]
    rfl
  · rw [if_neg c, List.filter_cons, if_neg c]
    rfl
theorem chW_len {ts : List (Int × Int)} {ps : List Int} {ws : List V} {ls : List Int} {i : Nat} {f : Int} {m : Nat} : (chW ts ps ws ls i f m).length ≤ m := by
  have := List.length_filter_le (chWB ts ps ws ls i f) (List.range m)
  rw [List.length_range] at this
  exact this
theorem lexI_chB {ps : List Int} {a b : Nat} : lexI (prI ps a) (a : Int) (prI ps b) (b : Int) = decide (chB ps a b) := by
  unfold lexI chB
  refine decide_eq_decide.mpr ?_
  omega
theorem chW_inside {ts : List (Int × Int)} {ps : List Int} {ws : List V} {ls : List Int} {i : Nat} {f : Int} {m : Nat} : (chW ts ps ws ls i f m).length = inside ls (layerOf (tsN ts (chL ps m i)) ((chL ps m i).map fun i => ws.getD i .non) f) := by
  rw [lay_pre]
  unfold inside tsN chL chW
  rw [List.filter_map, List.length_map, List.filter_filter, List.filter_filter]
  refine congrArg List.length (List.filter_congr fun j _ => ?_)
  unfold chWB
  simp only [Function.comp]
  generalize decide (ws.getD j .non = V.int f) = b1
  generalize decide ((ts.getD j (0, 0)).1 ∈ ls) = b2
  generalize decide ((ts.getD j (0, 0)).2 ∈ ls) = b3
  generalize decide (chB ps j i) = b4
  cases b1 <;> cases b2 <;> cases b3 <;> cases b4 <;> rfl
theorem reason_iff {ts : List (Int × Int)} {n k : Int} {ps : List Int} {ws : List V} {ls : List Int} {i : Nat} (hL : LayK ts k ws) (hk : 0 ≤ k) (hl : Lot n ls) :
    ((inside ls (tsN ts (ldN ws (chL ps ts.length i))) : Int) = k * ((ls.length : Int) - 1)) ↔ ∀ f, 0 ≤ f → f < k → ((chW ts ps ws ls i f ts.length).length : Int) = (ls.length : Int) - 1 := by
  have nd : (chL ps ts.length i).Nodup := List.nodup_range.filter _
  have hd : ∀ j ∈ chL ps ts.length i, j < ts.length := fun j hj => List.mem_range.mp (List.mem_filter.mp hj).1
  have hp := hL.pre nd hd
  have := tight_iff hp hk (hl.up.imp fun h => Int.ne_of_lt h) hl.ne
  rw [laidT_pre] at this
  rw [this]
  exact forall_congr' fun f => forall_congr' fun _ => forall_congr' fun _ => by rw [chW_inside]
theorem tsN_app (ts : List (Int × Int)) (l r : List Nat) : tsN ts (l ++ r) = tsN ts l ++ tsN ts r := List.map_append ..
end FF
namespace FF
open PySem PySem.Spec PyProof.Rows L2
variable [LT]
/-! ### data that str shows -/
structure ShS (e c : Nat) (d : PyData) : Prop where
  sh : d.showable = true
  hd : d.hasDict = false
  lv : d.leavesShort 13 = true
  dp : d.depth ≤ e
  bk : d.bulk ≤ c
theorem ShS.fits {e c : Nat} {d : PyData} (h : ShS e c d) (hc : c ≤ 1000000) : d.shown.length ≤ sizeLine := PyData.shown_fits_bulk (by decide) (by decide) h.lv (by have := h.bk; omega)
theorem ShS.up {e c e' c' : Nat} {d : PyData} (h : ShS e c d) (h1 : e ≤ e') (h2 : c ≤ c') : ShS e' c' d := ⟨h.sh, h.hd, h.lv, Nat.le_trans h.dp h1, Nat.le_trans h.bk h2⟩
theorem shS_int {i : Int} (h0 : 0 ≤ i) (h1 : i ≤ 1000000000) : ShS 0 0 (.int i) := by
  refine ⟨?_, rfl, ?_, Nat.le_refl _, Nat.le_refl _⟩
  · refine decide_eq_true ?_
    have h2 : i.natAbs < 2 ^ 30 := by omega
    by_cases z : i.natAbs = 0
    · rw [z]
      decide
    · have := (Nat.log2_lt z).mpr h2
      omega
  · refine decide_eq_true ?_
    exact toString_length_le h0 (k := 13) (by decide) (by omega)
structure ShA (e c : Nat) (ds : List PyData) : Prop where
  sh : PyData.showableAll ds = true
  hd : PyData.hasDictAll ds = false
  lv : PyData.leavesShortAll 13 ds = true
  dp : PyData.depthAll ds ≤ e
  bk : PyData.bulkAll ds ≤ c
theorem shA_nil {e : Nat} : ShA e 0 [] := ⟨rfl, rfl, rfl, Nat.zero_le _, Nat.le_refl _⟩
theorem ShA.cons {e c c' : Nat} {d : PyData} {ds : List PyData} (h : ShS e c d) (t : ShA e c' ds) : ShA e (c + 1 + c') (d :: ds) := by
  refine ⟨?_, ?_, ?_, ?_, ?_⟩
  · show (d.showable && PyData.showableAll ds) = true
    rw [h.sh, t.sh]
    rfl
  · show (d.hasDict || PyData.hasDictAll ds) = false
    rw [h.hd, t.hd]
    rfl
  · show (PyData.leavesShort 13 d && PyData.leavesShortAll 13 ds) = true
    rw [h.lv, t.lv]
    rfl
  · show max d.depth (PyData.depthAll ds) ≤ e
    exact Nat.max_le.mpr ⟨h.dp, t.dp⟩
  · show d.bulk + 1 + PyData.bulkAll ds ≤ _
    have := h.bk
    have := t.bk
    omega
theorem shA_of {e c : Nat} : ∀ {ds : List PyData}, (∀ d ∈ ds, ShS e c d) → ShA e (ds.length * (c + 1)) ds
  | [], _ => ⟨rfl, rfl, rfl, Nat.zero_le _, Nat.zero_le _⟩
  | d :: ds, h => by
    have a := ShA.cons (h d List.mem_cons_self) (shA_of fun x hx => h x (List.mem_cons_of_mem _ hx))
    refine ⟨a.sh, a.hd, a.lv, a.dp, Nat.le_trans a.bk ?_⟩
    rw [List.length_cons, Nat.add_mul]
    omega
theorem ShA.tup {e c : Nat} {ds : List PyData} (h : ShA e c ds) : ShS (e + 1) c (.tuple ds) := ⟨h.sh, h.hd, h.lv, Nat.succ_le_succ h.dp, h.bk⟩
theorem ShA.lst {e c : Nat} {ds : List PyData} (h : ShA e c ds) : ShS (e + 1) c (.list ds) := ⟨h.sh, h.hd, h.lv, Nat.succ_le_succ h.dp, h.bk⟩
theorem shS_ints {ls : List Int} (h : ∀ x ∈ ls, 0 ≤ x ∧ x ≤ 1000000000) : ShS 1 ls.length (.tuple (ls.map PyData.int)) := by
  have := (shA_of (e := 0) (c := 0) (ds := ls.map PyData.int) fun d hd => by
    obtain ⟨i, hi, rfl⟩ := List.mem_map.mp hd
    exact shS_int (h i hi).1 (h i hi).2).tup
  rw [List.length_map, Nat.zero_add, Nat.mul_one] at this
  exact this
theorem shS_web {n : Int} {ts : List (Int × Int)} (hn0 : 0 ≤ n) (hn : n ≤ 1000) (ok : TOk n ts) : ShS 3 (3 * ts.length + 2) (dWeb n ts) := by
  have e1 : ∀ d ∈ ts.map (fun e => PyData.tuple [.int e.1, .int e.2]), ShS 1 2 d := fun d hd => by
    obtain ⟨t, ht, rfl⟩ := List.mem_map.mp hd
    have := ok t ht
    exact (ShA.cons (shS_int (by omega) (by omega)) (ShA.cons (shS_int (by omega) (by omega)) (shA_nil (e := 0)))).tup
  have e2 := (shA_of e1).tup
  rw [List.length_map] at e2
  have e3 := (ShA.cons (shS_int hn0 (by omega) |>.up (Nat.zero_le 2) (Nat.le_refl 0)) (ShA.cons e2 (shA_nil (e := 2)))).tup
  exact e3.up (Nat.le_refl _) (by omega)
end FF
namespace FF
open PySem PySem.Spec PyProof.Rows L2
variable [LT]
/-! ### sums of prices; what cheapest_ties tells, as data -/
def dLo : Option (List Int) → PyData
  | none => .none
  | some ls => .tuple (ls.map PyData.int)
theorem LoP.dp {K : PySem.W.Frag} {H : Hp} : ∀ {xs : List V} {lo : List (Option (List Int))}, LoP H xs lo → DpAll K H xs (lo.map dLo)
  | _, _, .nil => .nil
  | _, none :: _, .cons h t => by
    have h : _ = V.non := h
    rw [h]
    exact .cons .non (LoP.dp t)
  | _, some ls :: _, .cons h t => by
    obtain ⟨q, rfl, hq⟩ := h
    exact .cons (.tup (sqT_of hq) (dp_ints ls)) (LoP.dp t)
def dFill (ws : List V) (lo : List (Option (List Int))) : PyData := .tuple [.tuple (ws.map dO), .tuple (lo.map dLo)]
end FF
namespace FF
open PySem PySem.Spec PyProof.Rows L2
variable [LT]
/-! ### defs that are called within an except suite -/
section
open HotX L2H
end
end FF
namespace FF
open PySem PySem.Spec PyProof.Rows L2
variable [LT]
/-! ### stand-ins -/
end FF
namespace FF
open PySem PySem.Spec PyProof.Rows L2
variable [LT]
/-! ### the numbers without one -/
theorem greF_mem {n : Nat} {ts : List (Int × Int)} {k : Int} : ∀ {l acc : List Nat} {i : Nat}, i ∈ greF n ts k acc l → i ∈ acc ∨ i ∈ l
  | [], _, _, h => .inl h
  | x :: l, acc, i, h => by
    have h : i ∈ greF n ts k (if canF n (tsN ts (acc ++ [x])) k = true then acc ++ [x] else acc) l := h
    rcases greF_mem h with h | h
    · split at h
      · rcases List.mem_append.mp h with h | h
        · exact .inl h
        · exact .inr (List.mem_cons.mpr (.inl (List.mem_singleton.mp h)))
      · exact .inl h
    · exact .inr (List.mem_cons_of_mem _ h)
theorem greF_len {n : Nat} {ts : List (Int × Int)} {k : Int} : ∀ (l acc : List Nat), (greF n ts k acc l).length ≤ acc.length + l.length
  | [], acc => Nat.le_add_right _ _
  | x :: l, acc => by
    have h := greF_len (n := n) (ts := ts) (k := k) l (if canF n (tsN ts (acc ++ [x])) k = true then acc ++ [x] else acc)
    have h : (greF n ts k acc (x :: l)).length ≤ _ := h
    refine Nat.le_trans h ?_
    rw [List.length_cons]
    split
    · rw [List.length_append]
      show acc.length + 1 + l.length ≤ _
      omega
    · omega
end FF
namespace FF
open PySem PySem.Spec PyProof.Rows L2
variable [LT]
/-! ### all stand-ins -/
end FF
namespace FF
open PySem PySem.Spec PyProof.Rows L2
variable [LT]
/-! ### a search that goes on and back (what it may still find, how long it goes) -/
/-- g lies behind what was tried -/
def Gt : List Int → List Int → Int → Prop
  | [], _, _ => False
  | y :: _, [], x => x < y
  | y :: g, z :: f, x => z < y ∨ (z = y ∧ Gt g f x)
theorem Gt.start {g : List Int} (hg : g ≠ []) (h0 : ∀ y ∈ g, 0 ≤ y) : Gt g [] (-1) := by
  cases g with
  | nil => exact absurd rfl hg
  | cons y g =>
    have := h0 y List.mem_cons_self
    show -1 < y
    omega
theorem Gt.miss : ∀ {g f : List Int} {x : Int}, Gt g f x → (¬ (f ++ [x + 1]) <+: g) → Gt g f (x + 1)
  | [], _, _, h, _ => h.elim
  | y :: g, [], x, h, n => by
    have h : x < y := h
    show x + 1 < y
    have : y ≠ x + 1 := fun e => n ⟨g, by rw [e]; rfl⟩
    omega
  | y :: g, z :: f, x, h, n => by
    rcases h with h | ⟨rfl, h⟩
    · exact .inl h
    · refine .inr ⟨rfl, Gt.miss h fun ⟨t, e⟩ => n ⟨t, ?_⟩⟩
      rw [← e]
      rfl
theorem Gt.down : ∀ {g f : List Int} {x : Int}, Gt g f x → (∀ y ∈ g, 0 ≤ y) → f.length + 1 < g.length → Gt g (f ++ [x + 1]) (-1)
  | [], _, _, h, _, _ => h.elim
  | y :: g, [], x, h, h0, hl => by
    have h : x < y := h
    show x + 1 < y ∨ (x + 1 = y ∧ Gt g [] (-1))
    by_cases c : x + 1 < y
    · exact .inl c
    · refine .inr ⟨by omega, Gt.start (fun z => ?_) fun y hy => h0 y (List.mem_cons_of_mem _ hy)⟩
      rw [z] at hl
      exact absurd hl (by show ¬ (0 + 1 < 1); omega)
  | y :: g, z :: f, x, h, h0, hl => by
    rcases h with h | ⟨rfl, h⟩
    · exact .inl h
    · exact .inr ⟨rfl, Gt.down h (fun y hy => h0 y (List.mem_cons_of_mem _ hy)) (by simp only [List.length_cons] at hl; omega)⟩
theorem Gt.back : ∀ {g f : List Int} {z x k : Int}, Gt g (f ++ [z]) x → (∀ y ∈ g, y < k) → k ≤ x + 1 → Gt g f z
  | [], f, z, x, k, h, _, _ => by
    cases f <;> exact h.elim
  | y :: g, [], z, x, k, h, hk, hx => by
    rcases (show z < y ∨ (z = y ∧ Gt g [] x) from h) with h1 | ⟨rfl, h1⟩
    · exact h1
    · exfalso
      cases g with
      | nil => exact h1
      | cons u g =>
        have h2 : x < u := h1
        have := hk u (List.mem_cons_of_mem _ List.mem_cons_self)
        omega
  | y :: g, w :: f, z, x, k, h, hk, hx => by
    rcases (show w < y ∨ (w = y ∧ Gt g (f ++ [z]) x) from h) with h1 | ⟨rfl, h1⟩
    · exact .inl h1
    · exact .inr ⟨rfl, Gt.back h1 (fun y hy => hk y (List.mem_cons_of_mem _ hy)) hx⟩
theorem Gt.end {g : List Int} {x k : Int} (h : Gt g [] x) (hk : ∀ y ∈ g, y < k) (hx : k ≤ x + 1) : False := by
  cases g with
  | nil => exact h
  | cons y g =>
    have h : x < y := h
    have := hk y List.mem_cons_self
    omega
def fullW (k : Nat) : Nat → Nat
  | 0 => 0
  | d + 1 => k * (1 + fullW k d) + 1
def goW (k : Int) : List Int → Nat → Nat
  | [], _ => 0
  | z :: f, d => (k - 1 - z).toNat * (1 + fullW k.toNat d) + 1 + goW k f (d - 1)
def leftW (k : Int) (N : Nat) (fs : List Int) (x : Int) : Nat := goW k fs N + (k - 1 - x).toNat * (1 + fullW k.toNat (N - fs.length)) + 1
theorem goW_snoc (k z : Int) : ∀ (f : List Int) (d : Nat), goW k (f ++ [z]) d = goW k f d + ((k - 1 - z).toNat * (1 + fullW k.toNat (d - f.length)) + 1)
  | [], d => by
    show _ + 1 + 0 = 0 + _
    rw [Nat.add_zero, Nat.zero_add]
    rfl
  | y :: f, d => by
    show _ + 1 + goW k (f ++ [z]) (d - 1) = _ + 1 + goW k f (d - 1) + _
    rw [goW_snoc k z f (d - 1), List.length_cons, show d - 1 - f.length = d - (f.length + 1) by omega]
    omega
theorem leftW_miss {k : Int} {N : Nat} {fs : List Int} {x : Int} (h : x + 1 < k) : leftW k N fs (x + 1) < leftW k N fs x := by
  unfold leftW
  rw [show (k - 1 - x).toNat = (k - 1 - (x + 1)).toNat + 1 by omega, Nat.succ_mul]
  omega
theorem leftW_down {k : Int} {N : Nat} {fs : List Int} {x : Int} (h : x + 1 < k) (hl : fs.length < N) : leftW k N (fs ++ [x + 1]) (-1) < leftW k N fs x := by
  unfold leftW
  rw [goW_snoc, List.length_append, show [x + 1].length = 1 from rfl, show (k - 1 - x).toNat = (k - 1 - (x + 1)).toNat + 1 by omega, Nat.succ_mul]
  obtain ⟨d, hd⟩ : ∃ d, N - fs.length = d + 1 := ⟨N - fs.length - 1, by omega⟩
  rw [hd, show N - (fs.length + 1) = d by omega, show (k - 1 - (-1)).toNat = k.toNat by omega, show fullW k.toNat (d + 1) = k.toNat * (1 + fullW k.toNat d) + 1 from rfl]
  omega
theorem leftW_back {k : Int} {N : Nat} {fs : List Int} {z x : Int} : leftW k N fs z < leftW k N (fs ++ [z]) x := by
  unfold leftW
  rw [goW_snoc]
  omega
/-- a whole laying, told as forests -/
def Whl (ts : List (Int × Int)) (k : Int) (g : List Int) : Prop := LayK ts k (g.map V.int)
theorem Whl.len {ts : List (Int × Int)} {k : Int} {g : List Int} (h : Whl ts k g) : g.length = ts.length := by
  have := LayK.len h
  rwa [List.length_map] at this
theorem Whl.rng {ts : List (Int × Int)} {k : Int} {g : List Int} (h : Whl ts k g) : ∀ y ∈ g, 0 ≤ y ∧ y < k := fun y hy => by
  rcases LayK.each h _ (List.mem_map.mpr ⟨y, hy, rfl⟩) with z | ⟨f, e, f0, f1⟩
  · exact nomatch z
  · cases e
    exact ⟨f0, f1⟩
theorem Whl.snoc {ts : List (Int × Int)} {k : Int} {fs : List Int} {t : Int × Int} {f : Int} (h : Whl ts k fs) (f0 : 0 ≤ f) (f1 : f < k) (hr : ringlessF (fun x => x) (layerOf ts (fs.map V.int) f ++ [t]) = true) : Whl (ts ++ [t]) k (fs ++ [f]) := by
  unfold Whl
  have hw := LayK.snocF (t := t) h f0 f1 (by
    rw [freeB_eq (LayK.tree h f), ← ringlessF_more (LayK.tree h f)]
    exact hr)
  rw [List.map_append]
  exact hw
theorem Whl.snoc_tree {ts : List (Int × Int)} {k : Int} {fs : List Int} {t : Int × Int} {f : Int} (hl : fs.length = ts.length) (h : Whl (ts ++ [t]) k (fs ++ [f])) : ringlessF (fun x => x) (layerOf ts (fs.map V.int) f ++ [t]) = true := by
  have := LayK.tree h f
  rw [List.map_append, show [f].map V.int = [V.int f] from rfl, layerOf_snoc (by rw [List.length_map]; exact hl.symm), if_pos rfl] at this
  exact this
theorem Whl.pre {ts : List (Int × Int)} {k : Int} {g f : List Int} (h : Whl ts k g) (hf : f <+: g) : Whl (ts.take f.length) k f := by
  obtain ⟨r, rfl⟩ := hf
  have hl := h.len
  rw [List.length_append] at hl
  have e : ts = ts.take f.length ++ ts.drop f.length := (List.take_append_drop _ _).symm
  have h' : LayK (ts.take f.length ++ ts.drop f.length) k (f.map V.int ++ r.map V.int) := by
    rw [← e, ← List.map_append]
    exact h
  refine ⟨by rw [List.length_map, List.length_take]; omega, fun x hx => h'.each x (List.mem_append_left _ hx), fun q => ?_⟩
  have := h'.tree q
  rw [layerOf_app (by rw [List.length_take, List.length_map]; omega)] at this
  exact ringlessF_sub (List.sublist_append_left _ _) this
theorem Whl.nil {k : Int} {ts : List (Int × Int)} : Whl (ts.take 0) k [] := by
  rw [List.take_zero]
  exact LayK.nil
/-- what holds of the search: those found lie rightly, no whole laying lies in what was tried -/
structure Sek (ts : List (Int × Int)) (k : Int) (fs tr : List Int) : Prop where
  lay : Whl (ts.take fs.length) k fs
  le : fs.length ≤ ts.length
  st : (∃ x, tr = fs ++ [x] ∧ -1 ≤ x ∧ x < k ∧ (fs.length < ts.length → ∀ g, Whl ts k g → Gt g fs x)) ∨ (tr = [] ∧ fs = [] ∧ 0 < ts.length ∧ ∀ g, ¬ Whl ts k g)
def sekW (k : Int) (N : Nat) (p : List Int × List Int) : Nat := match p.2.getLast? with | none => 0 | some x => leftW k N p.1 x
theorem sekW_snoc (k : Int) (N : Nat) (fs tr : List Int) (x : Int) : sekW k N (fs, tr ++ [x]) = leftW k N fs x := by
  unfold sekW
  rw [List.getLast?_concat]
theorem Sek.start {ts : List (Int × Int)} {k : Int} (hk : 0 ≤ k) : Sek ts k [] [-1] :=
  ⟨Whl.nil, Nat.zero_le _, .inl ⟨-1, rfl, by omega, by omega, fun h g hg => Gt.start (fun z => by have := hg.len; rw [z] at this; exact absurd h (by rw [← this]; exact Nat.lt_irrefl 0)) fun y hy => (hg.rng y hy).1⟩⟩
theorem take_snoc {ts : List (Int × Int)} {m : Nat} (h : m < ts.length) : ts.take (m + 1) = ts.take m ++ [ts.getD m (0, 0)] := by
  rw [List.getD_eq_getElem?_getD, List.getElem?_eq_getElem h, ← List.take_append_getElem h]
  rfl
theorem Sek.on {ts : List (Int × Int)} {k : Int} {fs : List Int} {x : Int} (h : Sek ts k fs (fs ++ [x])) (hl : fs.length < ts.length) (hx : x + 1 < k) (hr : ringlessF (fun x => x) (layerOf (ts.take fs.length) (fs.map V.int) (x + 1) ++ [ts.getD fs.length (0, 0)]) = true) : Sek ts k (fs ++ [x + 1]) (fs ++ [x + 1] ++ [-1]) := by
  rcases h.st with ⟨x', e, x0, x1, hop⟩ | ⟨e, _⟩
  rotate_left
  · exact absurd e (by simp)
  have e' := List.append_inj' e rfl
  cases (show x = x' from by simpa using e'.2)
  refine ⟨?_, by rw [List.length_append]; exact hl, .inl ⟨-1, rfl, by omega, by omega, fun hl2 g hg => ?_⟩⟩
  · rw [List.length_append, show [x + 1].length = 1 from rfl, take_snoc hl]
    exact h.lay.snoc (by omega) hx hr
  · rw [List.length_append] at hl2
    exact (hop hl g hg).down (fun y hy => (hg.rng y hy).1) (by rw [hg.len]; exact hl2)
theorem Sek.off {ts : List (Int × Int)} {k : Int} {fs : List Int} {x : Int} (h : Sek ts k fs (fs ++ [x])) (hl : fs.length < ts.length) (hx : x + 1 < k) (hr : ringlessF (fun x => x) (layerOf (ts.take fs.length) (fs.map V.int) (x + 1) ++ [ts.getD fs.length (0, 0)]) = false) : Sek ts k fs (fs ++ [x + 1]) := by
  rcases h.st with ⟨x', e, x0, x1, hop⟩ | ⟨e, _⟩
  rotate_left
  · exact absurd e (by simp)
  have e' := List.append_inj' e rfl
  cases (show x = x' from by simpa using e'.2)
  refine ⟨h.lay, h.le, .inl ⟨x + 1, rfl, by omega, hx, fun hl2 g hg => (hop hl g hg).miss fun hp => ?_⟩⟩
  have hw := hg.pre hp
  rw [List.length_append, show [x + 1].length = 1 from rfl, take_snoc hl] at hw
  have := Whl.snoc_tree (by rw [List.length_take]; omega) hw
  rw [hr] at this
  exact absurd this (by decide)
theorem Sek.back {ts : List (Int × Int)} {k : Int} {fs : List Int} {z x : Int} (h : Sek ts k (fs ++ [z]) (fs ++ [z] ++ [x])) (hl : (fs ++ [z]).length < ts.length) (hx : k ≤ x + 1) : Sek ts k fs (fs ++ [z]) := by
  rcases h.st with ⟨x', e, x0, x1, hop⟩ | ⟨e, _⟩
  rotate_left
  · exact absurd e (by simp)
  have e' := List.append_inj' e rfl
  cases (show x = x' from by simpa using e'.2)
  have hz := h.lay.rng z (List.mem_append_right _ List.mem_cons_self)
  have hp := h.lay.pre (f := fs) ⟨[z], rfl⟩
  rw [List.take_take, show min fs.length (fs ++ [z]).length = fs.length by rw [List.length_append]; omega] at hp
  rw [List.length_append] at hl
  refine ⟨hp, by omega, .inl ⟨z, rfl, by omega, hz.2, fun _ g hg => (hop (by rw [List.length_append]; exact hl) g hg).back (fun y hy => (hg.rng y hy).2) hx⟩⟩
theorem Sek.out {ts : List (Int × Int)} {k : Int} {x : Int} (h : Sek ts k [] [x]) (hl : 0 < ts.length) (hx : k ≤ x + 1) : Sek ts k [] [] := by
  rcases h.st with ⟨x', e, x0, x1, hop⟩ | ⟨e, _⟩
  rotate_left
  · exact absurd e (by simp)
  cases (show x = x' from by simpa using e)
  exact ⟨h.lay, h.le, .inr ⟨rfl, rfl, hl, fun g hg => (hop hl g hg).end (fun y hy => (hg.rng y hy).2) hx⟩⟩
theorem Sek.full {ts : List (Int × Int)} {k : Int} {fs tr : List Int} (h : Sek ts k fs tr) (hl : fs.length = ts.length) : Whl ts k fs := by
  have := h.lay
  rwa [hl, List.take_length] at this
theorem Sek.none {ts : List (Int × Int)} {k : Int} {fs : List Int} (h : Sek ts k fs []) (hl : fs.length < ts.length) : ∀ g, ¬ Whl ts k g := by
  rcases h.st with ⟨x, e, _⟩ | ⟨_, _, _, hn⟩
  · exact absurd e (by simp)
  · exact hn
/-- the whole layings, by lots -/
theorem whl_can {n : Nat} {ts : List (Int × Int)} {k : Int} (ok : TOk (n : Int) ts) (hk : 0 ≤ k) : (∃ g, Whl ts k g) ↔ canF n ts k = true := by
  rw [canF_iff, ← nash ok hk]
  constructor
  · rintro ⟨g, hg⟩
    exact ⟨_, hg, fun x hx => by obtain ⟨y, _, rfl⟩ := List.mem_map.mp hx; exact fun z => nomatch z⟩
  · rintro ⟨ws, hL, hw⟩
    obtain ⟨g, hg⟩ : ∃ g : List Int, ws = g.map V.int := by
      have hall : ∀ x ∈ ws, ∃ f : Int, x = V.int f := fun x hx => by
        rcases hL.each x hx with z | ⟨f, e, _⟩
        · exact absurd z (hw x hx)
        · exact ⟨f, e⟩
      clear hL hw
      induction ws with
      | nil => exact ⟨[], rfl⟩
      | cons x ws ih =>
        obtain ⟨f, rfl⟩ := hall x List.mem_cons_self
        obtain ⟨g, rfl⟩ := ih fun y hy => hall y (List.mem_cons_of_mem _ hy)
        exact ⟨f :: g, rfl⟩
    exact ⟨g, by unfold Whl; rw [← hg]; exact hL⟩
theorem ifT_of {A B : Prop} (h : if true = true then A else B) : A := h
theorem ifF_of {A B : Prop} (h : if false = true then A else B) : B := h
end FF
namespace FF
open PySem PySem.Spec PyProof.Rows L2
variable [LT]
/-! ### dict(zip(xs, ys)) of two lists, the keys ints -/
section
variable {X : Cx}
/-- keys and values put together -/
def zipK : List Int → List V → List (Key × V)
  | n :: ns, v :: vs => (Sum.inl n, v) :: zipK ns vs
  | _, _ => []
theorem zipK_length : ∀ (ns : List Int) (vs : List V), (zipK ns vs).length = min ns.length vs.length
  | [], vs => by cases vs <;> simp [zipK]
  | n :: ns, [] => by simp [zipK]
  | n :: ns, v :: vs => by
    show (zipK ns vs).length + 1 = _
    rw [zipK_length ns vs, List.length_cons, List.length_cons]
    omega
/-- the values' side -/
theorem zipK_rel (P : Program) (w : World) : ∀ {ns : List Int} {vs : List V} {us ws : List Value}, Vals (ns.map V.int) us → Vals vs ws → ∃ prs : List (Key × Value), KV (zipK ns vs) prs ∧ prs.length = min us.length ws.length ∧ ∀ (i : Nat) (k v : Value), us[i]? = some k → ws[i]? = some v → ∃ q, prs[i]? = some (q, v) ∧ keyIs q k = true
  | [], vs, us, ws, r, r2 => by
    cases r
    refine ⟨[], ?_, by simp, fun i k v e => by simp at e⟩
    cases vs <;> exact .nil
  | n :: ns, [], us, ws, r, r2 => by
    cases r2
    exact ⟨[], .nil, by simp, fun i k v _ e => by simp at e⟩
  | n :: ns, v :: vs, us, ws, r, r2 => by
    cases r with
    | cons h t =>
      cases r2 with
      | cons h2 t2 =>
        rename_i u us w' ws
        obtain ⟨prs, rel, hl, hp⟩ := zipK_rel P w t t2
        refine ⟨(Sum.inl n, w') :: prs, .cons ⟨rfl, h2⟩ rel, by rw [List.length_cons, hl, List.length_cons, List.length_cons]; omega, fun i k x e1 e2 => ?_⟩
        cases i with
        | zero =>
          have e1 : u = k := Option.some.inj e1
          have e2 : w' = x := Option.some.inj e2
          subst e1 e2
          exact ⟨_, rfl, kV_is (P := P) (w := w) (k := Sum.inl n) h⟩
        | succ i =>
          obtain ⟨q, a, b⟩ := hp i k x (by simpa using e1) (by simpa using e2)
          exact ⟨q, by simpa using a, b⟩
def tDictZip (K : PySem.W.Frag) (ta : TA) : TE := fun σ H Q => ta σ H fun xs H1 => ∃ (a b : Addr) (ns : List Int) (vs : List V), xs = [.ref a, .ref b] ∧ SqL K H1 a (ns.map V.int) ∧ SqL K H1 b vs ∧ ∀ q, H1 q = none → Q (.ref q) (upd H1 q (.dK (mergeK [] (zipK ns vs))))
theorem pe_dictZip {e e2 : Expr} {ta : TA} {p p2 pos pos2 : Pos} (hc : X.calm = true) (hg : Gl X "dict") (hm : X.mg "dict" = none) (hg2 : Gl X "zip") (hm2 : X.mg "zip" = none) (ha : PA X [e, e2] ta)
    (hs : starEach [e, e2] X.env = (false, eval e X.env) :: starEach [e2] X.env := by rfl) (hpl : (backTo pos2 (starEach [e2] X.env)).any (·.1) = false := by rfl)
    (hs2 : starEach [.Call (.Name "zip" p2) [e, e2] [] pos2] X.env = (false, eval (.Call (.Name "zip" p2) [e, e2] [] pos2) X.env) :: starEach [] X.env := by rfl) :
    PE X (.Call (.Name "dict" p) [.Call (.Name "zip" p2) [e, e2] [] pos2] [] pos) (tDictZip X.K ta) := by
  refine ⟨fun pins s σ H Q I h => ?_⟩
  refine Call_ (ld_blt I hg hm PyProof.Rows.boot_dict (PyProof.Rows.callWith_type1 (args_cons (Call_ (ld_blt I hg2 hm2 PyProof.Rows.boot_zip (PyProof.Rows.callWith_type1 (thn (ha.run pos2 pins s σ H _ I h) fun us s1 ⟨vs, H1, I1, r1, q1⟩ => ?_) hs hpl))) hs2) hs2 rfl))
  obtain ⟨a, b, ns, xs, ex, hqa, hqb, q⟩ := q1
  subst ex
  cases r1 with
  | cons r rr =>
    cases rr with
    | cons r' rr =>
      cases rr
      cases r
      cases r'
      obtain ⟨its, rv, p1, z1⟩ := I1.list hqa
      obtain ⟨its2, rv2, p2, z2⟩ := I1.list hqb
      refine call_zip_2 p1.isList p2.isList fun h' hz hTI hTO h1 h2 hsz hk => args_nil ?_
      obtain ⟨prs, rel, hl, hp⟩ := zipK_rel X.prog X.w rv rv2
      have D := PySem.W.ktu_apart s1.heap.objs.size a b p1.lt p2.lt
      have hcal : X.A.handled = none := I1.ok.hd hc
      have hzl : its.length ≤ sizeLine := by
        rw [← rv.length]
        exact z1
      refine PySem.call_dict_pairs (s := { s1 with heap := h' }) (knd := mixKind X.prog X.w) (kvs := prs) (PairArg.zip _ _ _ _ _ a b D its.toArray its2.toArray) hcal ⟨hz, hTI, ⟨_, _, hTO⟩, h1, h2, p1.isList.at fun o e => hk _ o e, p2.isList.at fun o e => hk _ o e⟩ ⟨by rw [hl, List.size_toArray, List.size_toArray], fun i k v ⟨e1, e2⟩ => ?_⟩ ?_ fun h'' tk hd hk2 => ?_
      · obtain ⟨q, g1, g2⟩ := hp i k v (by simpa using e1) (by simpa using e2)
        exact ⟨q, g1, g2⟩
      · rw [List.size_toArray]
        exact Nat.le_trans (Nat.min_le_left _ _) hzl
      · have keep : ∀ c o, s1.heap.get? c = some o → h''.get? c = some o := fun c o e => by
          have hlt := Heap.lt_size e
          refine hk2 c o (fun hm => ?_) (hk c o e)
          simp only [List.mem_cons, List.not_mem_nil, or_false] at hm
          have ge : s1.heap.objs.size ≤ c := by
            rcases hm with z | z | z | z
            · rw [z]; exact Nat.le_add_right _ _
            · rw [z]; exact Nat.le_add_right _ _
            · rw [z]; exact Nat.le_refl _
            · rw [z]; exact Nat.le_add_right _ _
          exact absurd hlt (Nat.not_lt.mpr ge)
        have hsys : (h'.objs.size == sysModules) = false := beq_eq_false_iff_ne.mpr (Nat.ne_of_gt (by rw [hsz]; exact Nat.lt_of_lt_of_le I1.big (Nat.le_add_right _ _)))
        have hlen : (mergeK [] (zipK ns xs)).length ≤ sizeLine := by
          refine Nat.le_trans (length_mergeK _ _) ?_
          rw [List.length_nil, Nat.zero_add, zipK_length]
          refine Nat.le_trans (Nat.min_le_left _ _) ?_
          rw [List.length_map] at z1
          exact z1
        exact ⟨.ref h'.objs.size, _, I1.laid (t' := tk) (o := .dK (mergeK [] (zipK ns xs))) keep (by omega) (dk_new hlen hsys (rel.merge .nil) hd), rfl, q _ (I1.hok.fresh (by omega))⟩
end
end FF
namespace FF
open PySem PySem.Spec PyProof.Rows L2
variable [LT]
/-! ### papers made up: places turned, reasons picked -/
theorem merge_at : ∀ {ns : List Int} {vs : List V} {acc : List (Key × V)}, ns.Nodup → (∀ (j : Nat) n v, ns[j]? = some n → vs[j]? = some v → valV (mergeK acc (zipK ns vs)) (Sum.inl n) = some v) ∧ ∀ x, x ∉ ns → valV (mergeK acc (zipK ns vs)) (Sum.inl x) = valV acc (Sum.inl x)
  | [], vs, acc, _ => ⟨fun j n v e => by simp at e, fun x _ => by cases vs <;> rfl⟩
  | n :: ns, [], acc, _ => ⟨fun j n v _ e => by simp at e, fun x _ => rfl⟩
  | n :: ns, v :: vs, acc, nd => by
    obtain ⟨h1, h2⟩ := List.nodup_cons.mp nd
    obtain ⟨i1, i2⟩ := merge_at (ns := ns) (vs := vs) (acc := putK acc (Sum.inl n) v) h2
    have e : mergeK acc (zipK (n :: ns) (v :: vs)) = mergeK (putK acc (Sum.inl n) v) (zipK ns vs) := rfl
    rw [e]
    refine ⟨fun j m u g1 g2 => ?_, fun x hx => ?_⟩
    · cases j with
      | zero =>
        cases (show n = m from Option.some.inj g1)
        cases (show v = u from Option.some.inj g2)
        rw [i2 n h1, valV_put, if_pos rfl]
      | succ j => exact i1 j m u (by simpa using g1) (by simpa using g2)
    · rw [i2 x fun z => hx (List.mem_cons_of_mem _ z), valV_put, if_neg fun z => hx (by rw [Sum.inl.inj z]; exact List.mem_cons_self)]
/-- the entries of a dict for the numbers ahead of m -/
def plcW (kvs : List (Key × V)) (m : Nat) : List V := (List.range m).map fun (i : Nat) => (valV kvs (Sum.inl (i : Int))).getD .non
theorem plcW_at {kvs : List (Key × V)} {m i : Nat} (h : i < m) : (plcW kvs m).getD i .non = (valV kvs (Sum.inl (i : Int))).getD .non := by
  unfold plcW
  rw [List.getD_eq_getElem?_getD, List.getElem?_map, List.getElem?_range h]
  rfl
theorem plcW_len {kvs : List (Key × V)} {m : Nat} : (plcW kvs m).length = m := by
  unfold plcW
  rw [List.length_map, List.length_range]
theorem layer_map {ts : List (Int × Int)} : ∀ {g : List Int} {r : Int → Int} {f f0 : Int}, (∀ y ∈ g, r y = f ↔ y = f0) → layerOf ts ((g.map r).map V.int) f = layerOf ts (g.map V.int) f0 := by
  induction ts with
  | nil => intro g r f f0 _; cases g <;> rfl
  | cons t ts ih =>
    intro g r f f0 h
    cases g with
    | nil => rfl
    | cons y g =>
      rw [List.map_cons, List.map_cons, List.map_cons, layerOf_cons, layerOf_cons, ih fun z hz => h z (List.mem_cons_of_mem _ hz)]
      congr 1
      have := h y List.mem_cons_self
      by_cases c : y = f0
      · rw [if_pos (by rw [this.mpr c]), if_pos (by rw [c])]
      · rw [if_neg fun z => c (this.mp (V.int.inj z)), if_neg fun z => c (V.int.inj z)]
theorem Whl.turn {ts : List (Int × Int)} {k t : Int} {g : List Int} (h : Whl ts k g) (hk : 0 < k) : Whl ts k (g.map fun y => (y + t) % k) := by
  refine ⟨by rw [List.length_map, List.length_map]; exact h.len, fun x hx => ?_, fun f => ?_⟩
  · obtain ⟨y, hy, rfl⟩ := List.mem_map.mp hx
    obtain ⟨z, _, rfl⟩ := List.mem_map.mp hy
    exact .inr ⟨_, rfl, Int.emod_nonneg _ (by omega), Int.emod_lt_of_pos _ hk⟩
  · by_cases c : 0 ≤ f ∧ f < k
    · rw [layer_map (f0 := (f - t) % k) fun y hy => ?_]
      · exact h.tree _
      · obtain ⟨y0, y1⟩ := h.rng y hy
        constructor
        · intro e
          rw [← e, Int.emod_sub_emod, Int.add_sub_cancel, Int.emod_eq_of_lt y0 y1]
        · intro e
          rw [e, Int.emod_add_emod, Int.sub_add_cancel, Int.emod_eq_of_lt c.1 c.2]
    · rw [layerOf_none fun x hx z => ?_]
      · rfl
      · obtain ⟨y, hy, rfl⟩ := List.mem_map.mp hx
        obtain ⟨w, _, rfl⟩ := List.mem_map.mp hy
        have z := V.int.inj z
        exact c ⟨by rw [← z]; exact Int.emod_nonneg _ (by omega), by rw [← z]; exact Int.emod_lt_of_pos _ hk⟩
/-- laid in other numbers: what the picked ties lie in -/
theorem lay_of_pick {ts : List (Int × Int)} {k : Int} {ws : List V} {M : List Nat} (hl : ws.length = ts.length) (nd : M.Nodup) (hM : ∀ i ∈ M, i < ts.length) (hw : ∀ i, i < ts.length → i ∉ M → ws.getD i .non = .non) (h : LayK (tsN ts M) k (M.map fun i => ws.getD i .non)) : LayK ts k ws := by
  refine ⟨hl, fun x hx => ?_, fun f => ?_⟩
  · obtain ⟨i, hi⟩ := List.getElem?_of_mem hx
    have il : i < ts.length := by have := (List.getElem?_eq_some_iff.mp hi).1; omega
    have e : ws.getD i .non = x := by rw [List.getD_eq_getElem?_getD, hi]; rfl
    by_cases c : i ∈ M
    · exact h.each x (List.mem_map.mpr ⟨i, c, e⟩)
    · rw [hw i il c] at e
      exact .inl e.symm
  · have := h.tree f
    rw [lay_pre] at this
    rw [lay_tsN hl, ringlessF_perm (tsN_perm (m := M.filter fun i => decide (ws.getD i .non = V.int f)) ?_)]
    · exact this
    · refine (List.perm_ext_iff_of_nodup (List.nodup_range.filter _) (nd.filter _)).mpr fun i => ?_
      rw [List.mem_filter, List.mem_filter, decide_eq_true_eq, List.mem_range]
      constructor
      · rintro ⟨a, b⟩
        refine ⟨?_, b⟩
        by_cases c : i ∈ M
        · exact c
        · rw [hw i a c] at b
          cases b
      · rintro ⟨a, b⟩
        exact ⟨hM i a, b⟩
/-- a paper's parts -/
structure PapR (ts : List (Int × Int)) (n k : Int) (ps : List Int) (ws : List V) (lo : List (Option (List Int))) : Prop where
  lay : LayK ts k ws
  len : lo.length = ts.length
  yes : ∀ i, i < ts.length → ws[i]? ≠ some .non → lo[i]? = some none
  no : ∀ i, i < ts.length → ws[i]? = some .non → ∃ ls, lo[i]? = some (some ls) ∧ Lot n ls ∧ lotR ts n k ps ws i (some (ls.map V.int)) = true
theorem PapR.cheap {ts : List (Int × Int)} {n k : Int} {ps : List Int} {H : Hp} {x u c : Addr} {ws xs : List V} {lo : List (Option (List Int))} (P : PapR ts n k ps ws lo) (hx : H x = some (.tup [.ref u, .ref c])) (hu : H u = some (.tup ws)) (hc : H c = some (.tup xs)) (hlo : LoP H xs lo) (hm : ts.length ≤ 1000) (hn : n ≤ 1000) :
    DT 3 H (.ref x) ∧ cheapB ts n k ps H (.ref x) = true := by
  have hL := P.lay
  have hwl := hL.len
  have hll := P.len
  have hxl := hlo.length
  have dw : DT 2 H (.ref u) := DT.tup hu (by omega) fun y hy => by
    rcases hL.each y hy with rfl | ⟨f, rfl, _⟩
    · exact DT.of .non (by decide)
    · exact DT.of (.int f) (by decide)
  have dc : DT 2 H (.ref c) := DT.tup hc (by omega) fun y hy => by
    obtain ⟨i, hi⟩ := List.getElem?_of_mem hy
    obtain ⟨o, ho, hv⟩ := hlo.get hi
    have il : i < ts.length := by have := (List.getElem?_eq_some_iff.mp hi).1; omega
    cases o with
    | none =>
      rw [show y = V.non from hv]
      exact DT.of .non (by decide)
    | some ls =>
      obtain ⟨q, rfl, hq⟩ := hv
      have hlt : Lot n ls := by
        by_cases z : ws[i]? = some .non
        · obtain ⟨ls', e, hl, _⟩ := P.no i il z
          rw [ho] at e
          cases e
          exact hl
        · have := P.yes i il z
          rw [ho] at this
          cases this
      have := hlt.le
      exact DT.tup hq (by rw [List.length_map]; omega) fun z hz => by
        obtain ⟨j, _, rfl⟩ := List.mem_map.mp hz
        exact ⟨"int", .int j⟩
  refine ⟨DT.tup hx (by simp) fun y hy => ?_, ?_⟩
  · rcases List.mem_cons.mp hy with rfl | hy
    · exact dw
    · rw [List.mem_singleton.mp hy]
      exact dc
  · unfold cheapB
    rw [rdT_tup hx]
    dsimp only
    rw [rdT_tup hu, rdT_tup hc, hL.o, Bool.true_and]
    dsimp only [Option.getD_some]
    refine reasA_yes (by rw [hxl, hll]) fun i y hy => ?_
    obtain ⟨o, ho, hv⟩ := hlo.get hy
    have il : i < ts.length := by
      have := (List.getElem?_eq_some_iff.mp hy).1
      omega
    unfold reasB
    split
    · rename_i hno
      obtain ⟨ls, hls, _, hR⟩ := P.no i il hno
      rw [ho] at hls
      cases hls
      obtain ⟨q, rfl, hq⟩ := hv
      rw [rdT_tup hq]
      exact hR
    · rename_i hno
      have := P.yes i il hno
      rw [ho] at this
      cases this
      exact decide_eq_true hv
theorem LoP.dpF {K : PySem.W.Frag} {H : Hp} {x u c : Addr} {ws xs : List V} {lo : List (Option (List Int))} (hx : H x = some (.tup [.ref u, .ref c])) (hu : H u = some (.tup ws)) (hw : ∀ y ∈ ws, IsO y) (hc : H c = some (.tup xs)) (hlo : LoP H xs lo) : Dp K H (.ref x) (dFill ws lo) :=
  .tup (sqT_of hx) (.cons (.tup (sqT_of hu) (dp_O hw)) (.cons (.tup (sqT_of hc) hlo.dp) .nil))
/-! the greedy, piece by piece -/
theorem greF_app {n : Nat} {ts : List (Int × Int)} {k : Int} : ∀ (l m acc : List Nat), greF n ts k acc (l ++ m) = greF n ts k (greF n ts k acc l) m
  | [], _, _ => rfl
  | _ :: l, m, _ => greF_app l m _
theorem greF_keep {n : Nat} {ts : List (Int × Int)} {k : Int} : ∀ {l acc : List Nat} {i : Nat}, i ∈ acc → i ∈ greF n ts k acc l
  | [], _, _, h => h
  | x :: l, acc, i, h => by
    show i ∈ greF n ts k (if canF n (tsN ts (acc ++ [x])) k = true then acc ++ [x] else acc) l
    refine greF_keep ?_
    split
    · exact List.mem_append_left _ h
    · exact h
theorem can_nil {n : Nat} {ts : List (Int × Int)} {k : Int} (hk : 0 ≤ k) : canF n (tsN ts []) k = true := canF_iff.mpr fun ls hls => by
  have : inside ls (tsN ts []) = 0 := rfl
  rw [this]
  have h1 : 0 < ls.length := List.length_pos_iff.mpr hls.ne
  exact Int.mul_nonneg hk (by omega)
theorem greF_can {n : Nat} {ts : List (Int × Int)} {k : Int} : ∀ {l acc : List Nat}, canF n (tsN ts acc) k = true → canF n (tsN ts (greF n ts k acc l)) k = true
  | [], _, h => h
  | x :: l, acc, h => by
    show canF n (tsN ts (greF n ts k (if canF n (tsN ts (acc ++ [x])) k = true then acc ++ [x] else acc) l)) k = true
    refine greF_can ?_
    split
    · assumption
    · exact h
theorem greF_nd {n : Nat} {ts : List (Int × Int)} {k : Int} : ∀ {l acc : List Nat}, (acc ++ l).Nodup → (greF n ts k acc l).Nodup
  | [], acc, h => by rwa [List.append_nil] at h
  | x :: l, acc, h => by
    show (greF n ts k (if canF n (tsN ts (acc ++ [x])) k = true then acc ++ [x] else acc) l).Nodup
    refine greF_nd ?_
    split
    · rw [List.append_assoc]
      exact h
    · exact h.sublist ((List.Sublist.refl acc).append (List.sublist_cons_self x l))
theorem inside_skip {ls : List Int} {ts : List (Int × Int)} {l : List Nat} {i : Nat} (h : ¬ ((tk ts (i : Int)).1 ∈ ls ∧ (tk ts (i : Int)).2 ∈ ls)) : inside ls (tsN ts (l ++ [i])) = inside ls (tsN ts l) := by
  unfold tsN
  rw [List.map_append]
  unfold inside
  rw [List.filter_append]
  have e : tk ts (i : Int) = ts.getD i (0, 0) := by
    unfold tk
    rw [Int.toNat_natCast]
  rw [e] at h
  have : ([i].map fun i => ts.getD i (0, 0)).filter (fun t => decide (t.1 ∈ ls) && decide (t.2 ∈ ls)) = [] := by
    rw [List.map_cons, List.map_nil, List.filter_cons, if_neg]
    · rfl
    · rw [Bool.and_eq_true, decide_eq_true_eq, decide_eq_true_eq]
      exact h
  rw [this, List.append_nil]
/-- each left-out tie has a reason -/
theorem gre_reason {n : Nat} {ts : List (Int × Int)} {k : Int} {ps : List Int} {ws : List V} {i : Nat} (hk : 0 ≤ k) (hl : ps.length = ts.length) (hi : i < ts.length) (hno : i ∉ greF n ts k [] (ordN ps)) (hw : ∀ j, j < ts.length → (j ∈ greF n ts k [] (ordN ps) ↔ ws.getD j .non ≠ V.non)) : ∃ ls, Lot (n : Int) ls ∧ lotR ts (n : Int) k ps ws i (some (ls.map V.int)) = true := by
  obtain ⟨pre, post, e⟩ := List.append_of_mem (ordN_mem.mpr (show i < ps.length by omega))
  have hp := ordN_pre e
  have ndO := ordN_nd ps
  rw [e, greF_app] at hno
  have hw' : ∀ j, j < ts.length → (j ∈ greF n ts k (greF n ts k [] pre) (i :: post) ↔ ws.getD j .non ≠ V.non) := by
    intro j hj
    rw [← hw j hj, e, greF_app]
  rw [e] at ndO
  obtain ⟨n1, n2, n3⟩ := List.nodup_append.mp ndO
  have ha := greF_can (n := n) (ts := ts) (k := k) (l := pre) (can_nil hk)
  have hm : ∀ j ∈ greF n ts k [] pre, j ∈ pre := fun j hj => (greF_mem hj).resolve_left fun z => nomatch z
  have nda := greF_nd (n := n) (ts := ts) (k := k) (l := pre) (acc := []) n1
  generalize greF n ts k [] pre = acc at *
  have hc : canF n (tsN ts (acc ++ [i])) k = false := by
    cases h : canF n (tsN ts (acc ++ [i])) k with
    | false => rfl
    | true =>
      refine absurd ?_ hno
      show i ∈ greF n ts k (if canF n (tsN ts (acc ++ [i])) k = true then acc ++ [i] else acc) post
      rw [if_pos h]
      exact greF_keep (List.mem_append_right _ List.mem_cons_self)
  have hlen : ∀ j ∈ pre, j < ts.length := fun j hj => by
    have := ordN_mem.mp (show j ∈ ordN ps by rw [e]; exact List.mem_append_left _ hj)
    omega
  have hacc : acc.Perm (ldN ws (chL ps ts.length i)) := by
    have p2 : (ldN ws pre).Perm (ldN ws (chL ps ts.length i)) := by
      rw [hl] at hp
      exact hp.filter _
    refine List.Perm.trans ?_ p2
    refine (List.perm_ext_iff_of_nodup nda (n1.filter _)).mpr fun j => ?_
    rw [show List.filter _ pre = ldN ws pre from rfl, ldN_mem]
    constructor
    · intro hj
      exact ⟨hm j hj, (hw' j (hlen j (hm j hj))).mp (greF_keep hj)⟩
    · rintro ⟨h1, h2⟩
      rcases greF_mem ((hw' j (hlen j h1)).mpr h2) with z | z
      · exact z
      · exact absurd rfl (n3 j h1 j z)
  have hex : ∃ ls, Lot (n : Int) ls ∧ ¬ (inside ls (tsN ts (acc ++ [i])) : Int) ≤ k * ((ls.length : Int) - 1) := Classical.byContradiction fun z => by
    rw [canF_iff.mpr fun ls hls => Classical.byContradiction fun y => z ⟨ls, hls, y⟩] at hc
    cases hc
  obtain ⟨ls, hls, hgt⟩ := hex
  have hle := canF_iff.mp ha ls hls
  by_cases hb : (tk ts (i : Int)).1 ∈ ls ∧ (tk ts (i : Int)).2 ∈ ls
  · rw [inside_tsN_snoc hb.1 hb.2] at hgt
    refine ⟨ls, hls, ?_⟩
    unfold lotR
    rw [hls.o, Bool.true_and]
    dsimp only
    rw [intsOf_int, decide_eq_true hb.1, decide_eq_true hb.2, Bool.true_and, Bool.true_and]
    refine decide_eq_true ?_
    rw [List.length_map, ← inside_perm (tsN_perm hacc) ls]
    omega
  · rw [inside_skip hb] at hgt
    exact absurd hle hgt
theorem made_lay {n : Nat} {ts : List (Int × Int)} {k t : Int} {ps : List Int} {M : List Nat} {g : List Int} (hk : 0 ≤ k) (hl : ps.length = ts.length) (pM : M.Perm (greF n ts k [] (ordN ps))) (hg : Whl (tsN ts M) k g) :
    LayK ts k (plcW (mergeK [] (zipK (M.map fun (i : Nat) => (i : Int)) ((g.map fun y => (y + t) % k).map V.int))) ts.length) ∧ ∀ j, j < ts.length → (j ∈ greF n ts k [] (ordN ps) ↔ (plcW (mergeK [] (zipK (M.map fun (i : Nat) => (i : Int)) ((g.map fun y => (y + t) % k).map V.int))) ts.length).getD j .non ≠ V.non) := by
  have nd : M.Nodup := pM.nodup_iff.mpr (greF_nd (by rw [List.nil_append]; exact ordN_nd ps))
  have hM : ∀ i ∈ M, i < ts.length := fun i hi => by
    rcases greF_mem (pM.mem_iff.mp hi) with z | z
    · exact nomatch z
    · rw [← hl]
      exact ordN_mem.mp z
  have gl := hg.len
  unfold tsN at gl
  rw [List.length_map] at gl
  have ndI : (M.map fun (i : Nat) => (i : Int)).Nodup := List.Pairwise.map (R := (· ≠ ·)) _ (fun a b (h : a ≠ b) z => h (Int.ofNat.inj z)) nd
  obtain ⟨at1, at2⟩ := merge_at (vs := (g.map fun y => (y + t) % k).map V.int) (acc := []) ndI
  generalize mergeK [] (zipK (M.map fun (i : Nat) => (i : Int)) ((g.map fun y => (y + t) % k).map V.int)) = kvs at *
  have out : ∀ i, i < ts.length → i ∉ M → (plcW kvs ts.length).getD i .non = .non := fun i il hi => by
    rw [plcW_at il, at2 _ fun z => hi (by
      obtain ⟨j, hj, e⟩ := List.mem_map.mp z
      cases Int.ofNat.inj e
      exact hj)]
    rfl
  have inn : M.map (fun i => (plcW kvs ts.length).getD i .non) = (g.map fun y => (y + t) % k).map V.int := by
    refine List.ext_getElem? fun j => ?_
    rw [List.getElem?_map]
    by_cases c : j < M.length
    · have hj : M[j]? = some M[j] := List.getElem?_eq_getElem c
      obtain ⟨y, hgj⟩ : ∃ y, ((g.map fun y => (y + t) % k).map V.int)[j]? = some y := ⟨_, List.getElem?_eq_getElem (by rw [List.length_map, List.length_map]; omega)⟩
      rw [hj, hgj]
      show some ((plcW kvs ts.length).getD M[j] .non) = _
      rw [plcW_at (hM _ (List.getElem_mem c)), at1 j _ _ (by rw [List.getElem?_map, hj]; rfl) hgj]
      rfl
    · rw [List.getElem?_eq_none (by omega), List.getElem?_eq_none (by rw [List.length_map, List.length_map]; omega)]
      rfl
  have hW : Whl (tsN ts M) k (g.map fun y => (y + t) % k) := by
    by_cases c : 0 < k
    · exact hg.turn c
    · have : g = [] := by
        cases g with
        | nil => rfl
        | cons y g =>
          have := hg.rng y List.mem_cons_self
          omega
      subst this
      exact hg
  have hL : LayK ts k (plcW kvs ts.length) := lay_of_pick plcW_len nd hM out (by rw [inn]; exact hW)
  refine ⟨hL, fun j hj => ?_⟩
  rw [← pM.mem_iff]
  constructor
  · intro hm z
    have : (plcW kvs ts.length).getD j .non ∈ M.map (fun i => (plcW kvs ts.length).getD i .non) := List.mem_map.mpr ⟨j, hm, rfl⟩
    rw [inn, z] at this
    obtain ⟨y, _, e⟩ := List.mem_map.mp this
    cases e
  · intro z
    exact Classical.byContradiction fun c => z (out j hj c)
/-- what may stand in a paper for a tie -/
def Rsn (ts : List (Int × Int)) (n k : Int) (ps : List Int) (ws : List V) (H : Hp) (i : Nat) (z : V) : Prop := ∃ o, LoV H z o ∧ (ws[i]? ≠ some .non → o = none) ∧ (ws[i]? = some .non → ∃ ls, o = some ls ∧ Lot n ls ∧ lotR ts n k ps ws i (some (ls.map V.int)) = true)
theorem Rsn.mono {ts : List (Int × Int)} {n k : Int} {ps : List Int} {ws : List V} {H H' : Hp} {i : Nat} {z : V} (h : Rsn ts n k ps ws H i z) (kk : ∀ q xs, H q = some (.tup xs) → H' q = some (.tup xs)) : Rsn ts n k ps ws H' i z := by
  obtain ⟨o, h1, h2⟩ := h
  refine ⟨o, ?_, h2⟩
  cases o with
  | none => exact h1
  | some ls =>
    obtain ⟨q, e, h⟩ := h1
    exact ⟨q, e, kk _ _ h⟩
theorem paper_of {ts : List (Int × Int)} {n k : Int} {ps : List Int} {ws : List V} {H : Hp} : ∀ {xs : List V} (f : Nat), (∀ i z, xs[i]? = some z → Rsn ts n k ps ws H (f + i) z) → ∃ lo, LoP H xs lo ∧ lo.length = xs.length ∧ ∀ i, i < xs.length → (ws[f + i]? ≠ some .non → lo[i]? = some none) ∧ (ws[f + i]? = some .non → ∃ ls, lo[i]? = some (some ls) ∧ Lot n ls ∧ lotR ts n k ps ws (f + i) (some (ls.map V.int)) = true)
  | [], _, _ => ⟨[], .nil, rfl, fun i h => nomatch h⟩
  | z :: xs, f, h => by
    obtain ⟨lo, p1, p2, p3⟩ := paper_of (xs := xs) (f + 1) fun i y e => by
      rw [show f + 1 + i = f + (i + 1) by omega]
      exact h (i + 1) y (by simpa using e)
    obtain ⟨o, h1, h2, h3⟩ := h 0 z rfl
    refine ⟨o :: lo, .cons h1 p1, by rw [List.length_cons, List.length_cons, p2], fun i hi => ?_⟩
    cases i with
    | zero =>
      refine ⟨fun w => congrArg some (h2 w), fun w => ?_⟩
      obtain ⟨ls, e, r⟩ := h3 w
      exact ⟨ls, congrArg some e, r⟩
    | succ i =>
      have := p3 i (by simpa using hi)
      rw [show f + 1 + i = f + (i + 1) by omega] at this
      exact this
theorem paper_is {ts : List (Int × Int)} {n k : Int} {ps : List Int} {ws : List V} {H : Hp} {xs : List V} (hL : LayK ts k ws) (hl : xs.length = ts.length) (h : ∀ i z, xs[i]? = some z → Rsn ts n k ps ws H i z) : ∃ lo, LoP H xs lo ∧ PapR ts n k ps ws lo := by
  obtain ⟨lo, p1, p2, p3⟩ := paper_of (xs := xs) 0 fun i z e => by
    rw [Nat.zero_add]
    exact h i z e
  refine ⟨lo, p1, hL, by omega, fun i hi z => ?_, fun i hi z => ?_⟩
  · have := (p3 i (by omega)).1
    rw [Nat.zero_add] at this
    exact this z
  · have := (p3 i (by omega)).2
    rw [Nat.zero_add] at this
    exact this z
theorem shS_none : ShS 0 0 .none := ⟨rfl, rfl, rfl, Nat.le_refl _, Nat.le_refl _⟩
theorem shS_Os {k : Int} {ws : List V} (hk : k ≤ 1000000000) (h : ∀ x ∈ ws, x = V.non ∨ ∃ f, x = V.int f ∧ 0 ≤ f ∧ f < k) : ShS 1 ws.length (.tuple (ws.map dO)) := by
  have := (shA_of (e := 0) (c := 0) (ds := ws.map dO) fun d hd => by
    obtain ⟨x, hx, rfl⟩ := List.mem_map.mp hd
    rcases h x hx with rfl | ⟨f, rfl, f0, f1⟩
    · exact shS_none
    · exact shS_int f0 (by omega)).tup
  rw [List.length_map, Nat.zero_add, Nat.mul_one] at this
  exact this
theorem PapR.sh {ts : List (Int × Int)} {n : Nat} {k : Int} {ps : List Int} {ws : List V} {lo : List (Option (List Int))} (P : PapR ts (n : Int) k ps ws lo) (hk : k ≤ 1000) (hn : n ≤ 1000) : ShS 3 (ts.length + ts.length * (n + 1) + 2) (dFill ws lo) := by
  have h1 := shS_Os (by omega) P.lay.each
  rw [P.lay.len] at h1
  have h2 : ShS 2 (ts.length * (n + 1)) (.tuple (lo.map dLo)) := by
    have := (shA_of (e := 1) (c := n) (ds := lo.map dLo) fun d hd => by
      obtain ⟨o, ho, rfl⟩ := List.mem_map.mp hd
      obtain ⟨i, hi⟩ := List.getElem?_of_mem ho
      have il : i < ts.length := by
        have := (List.getElem?_eq_some_iff.mp hi).1
        have := P.len
        omega
      by_cases c : ws[i]? = some .non
      · obtain ⟨ls, e, hl, _⟩ := P.no i il c
        rw [hi] at e
        cases e
        have := hl.le
        exact (shS_ints fun x hx => ⟨(hl.ok x hx).1, by have := (hl.ok x hx).2; omega⟩).up (Nat.le_refl _) (by omega)
      · have := P.yes i il c
        rw [hi] at this
        cases this
        exact shS_none.up (by decide) (Nat.zero_le _)).tup
    rw [List.length_map, P.len] at this
    exact this
  have := (ShA.cons (h1.up (show 1 ≤ 2 by decide) (Nat.le_refl _)) (ShA.cons h2 (shA_nil (e := 2)))).tup
  exact this.up (Nat.le_refl _) (by omega)
def dKept (n : Int) (ts : List (Int × Int)) (ps : List Int) (ws : List V) (lo : List (Option (List Int))) : PyData := .list [dWeb n ts, .tuple (ps.map PyData.int), dFill ws lo]
theorem kept_sh {ts : List (Int × Int)} {n : Nat} {k : Int} {ps : List Int} {ws : List V} {lo : List (Option (List Int))} (P : PapR ts (n : Int) k ps ws lo) (hk : k ≤ 1000) (hn : n ≤ 12) (ok : TOk (n : Int) ts) (hp : ∀ x ∈ ps, 0 ≤ x ∧ x ≤ 1000000000) : ShS 4 (17 * ts.length + ps.length + 10) (dKept (n : Int) ts ps ws lo) := by
  have h3 := P.sh hk (by omega)
  have := (ShA.cons (shS_web (n := (n : Int)) (by omega) (by omega) ok) (ShA.cons ((shS_ints hp).up (show 1 ≤ 3 by decide) (Nat.le_refl _)) (ShA.cons h3 (shA_nil (e := 3))))).lst
  refine this.up (Nat.le_refl _) ?_
  have : ts.length * (n + 1) ≤ ts.length * 13 := Nat.mul_le_mul_left _ (by omega)
  omega
theorem kept_dp {K : PySem.W.Frag} {H : Hp} {l x u c : Addr} {v pr : V} {n : Int} {ts : List (Int × Int)} {ps : List Int} {m : Nat} {ws xs : List V} {lo : List (Option (List Int))} (hl : H l = some (.lst [v, pr, .ref x])) (W : Web H v n ts) (P : Prc H pr ps m) (hx : H x = some (.tup [.ref u, .ref c])) (hu : H u = some (.tup ws)) (hw : ∀ y ∈ ws, IsO y) (hc : H c = some (.tup xs)) (hlo : LoP H xs lo) : Dp K H (.ref l) (dKept n ts ps ws lo) := by
  obtain ⟨⟨pa, rfl, gp⟩, _⟩ := P
  exact .lst (sqL_of hl) (.cons W.dp (.cons (.tup (sqT_of gp) (dp_ints ps)) (.cons (LoP.dpF hx hu hw hc hlo) .nil)))
end FF
namespace FF
open PySem PySem.Spec PyProof.Rows L2
variable [LT]
/-! ### one of a list's things -/
theorem pickI {ls : List V} {r : Int} {m : Nat} (hm : 0 < m) (hl : ls.length = m) : ∃ x, atI ls (r % (m : Int)) = some x ∧ x ∈ ls := by
  have e := emod_bds r (n := (m : Int)) (by omega)
  obtain ⟨u, eu⟩ : ∃ u : Nat, r % (m : Int) = (u : Int) := ⟨(r % (m : Int)).toNat, by omega⟩
  exact ⟨ls[u]'(by omega), by rw [eu]; exact atI_nat (List.getElem?_eq_getElem (by omega)), List.getElem_mem _⟩
theorem Ke.newT {H G : Hp} {p : Addr} {o : HO} (b : Ke H (upd G p o)) : Ke H (upd G p o) ∧ (upd G p o) p = some o := ⟨b, upd_same⟩
/-- + of two tuples, neither empty: the new one is known to the object -/
def rCatG (K : PySem.W.Frag) : R2 := fun x y H Q => ∃ a b xs ys, x = .ref a ∧ y = .ref b ∧ SqT K H a xs ∧ SqT K H b ys ∧ xs ≠ [] ∧ ys ≠ [] ∧ xs.length + ys.length ≤ sizeLine ∧ ∀ p H', Ke H H' → TF H' p (xs ++ ys) → Q (.ref p) H'
theorem catG {X : Cx} {K : PySem.W.Frag} (h : X.K = K := by rfl) : OpR X (binaryOp .Add) (rCatG K) := by
  subst h
  intro pins s σ H x y v u Q I rx ry hq
  obtain ⟨a, b, xs, ys, rfl, rfl, ha, hb, hx, hy, hz, q⟩ := hq
  cases rx
  cases ry
  obtain ⟨its, r1, p1, _⟩ := I.tuple ha
  obtain ⟨its2, r2, p2, _⟩ := I.tuple hb
  refine HT.cat_tup p1 p2 (fun z => hx (r1.nil_iff.mp z)) (fun z => absurd (r2.nil_iff.mp z) hy) (fun z => ?_) (by rw [← r1.length, ← r2.length]; exact hz)
  have hf : H s.heap.objs.size = none := I.hok.fresh (Nat.le_refl _)
  refine ⟨.ref s.heap.objs.size, upd H s.heap.objs.size (.frz { cls := .type "tuple", data := .seq (its ++ its2).toArray } (.tup (xs ++ ys))), I.laid (t' := s.toks) (fun b ob q => Heap.get?_push_of_some _ q) (Nat.le_refl _) ?_, rfl, q _ _ (Ke.new hf) ⟨_, upd_same, rfl⟩⟩
  exact ⟨Heap.get?_push_size _ rfl, by rw [List.length_append]; exact hz, _, r1.append r2, IsTup.new _ _⟩
theorem firstI : ∀ {l : List Int} {x : Int}, x ∈ l → ∃ j : Nat, l[j]? = some x ∧ ∀ m : Nat, m < j → l[m]? ≠ some x
  | [], _, h => nomatch h
  | y :: l, x, h => by
    by_cases c : y = x
    · exact ⟨0, by rw [c]; rfl, fun m hm => nomatch hm⟩
    · obtain ⟨j, h1, h2⟩ := firstI ((List.mem_cons.mp h).resolve_left fun z => c z.symm)
      refine ⟨j + 1, by simpa using h1, fun m hm => ?_⟩
      cases m with
      | zero => exact fun z => c (Option.some.inj z)
      | succ m =>
        have := h2 m (by omega)
        simpa using this
end FF
namespace FF
open PySem PySem.Spec PyProof.Rows L2
variable [LT]
/-! ### tuple(reversed(xs)), xs a tuple -/
section
open RT PySem
theorem nolen_rt : typeLookup (.type "reversed") "__len__" = pure none := by rw [typeLookup_type, builtinLookup_eq_fast]; kernel_rfl
theorem hint_rt : typeLookup (.type "reversed") "__length_hint__" = pure (some (.builtin "reversed.__length_hint__")) := by rw [typeLookup_type, builtinLookup_eq_fast]; kernel_rfl
theorem tup_at {h h' : Heap} {t : Addr} {items : Array Value} (x : IsTup h t items) (e : ∀ o, h.get? t = some o → h'.get? t = some o) : IsTup h' t items := let ⟨o, ho, r⟩ := x; ⟨o, e _ ho, r⟩
theorem slot_rt_hint : Slot "reversed" "__length_hint__" "reversed.__length_hint__" :=
  .of (owner := "reversed") (n := "__length_hint__") (by rw [typeLookup_type, builtinLookup_eq_fast]; kernel_rfl) (by decide +kernel) (by decide +kernel) (by decide +kernel)
    (by first | exact .inl (by decide +kernel) | exact .inr (by decide +kernel)) (by rw [isSubtype_type]; kernel_rfl)
theorem entry_rt_hint : entryFor table "reversed.__length_hint__" = some Builtin.«reversed.__length_hint__» := entryFor_of_tree (by kernel_rfl)
theorem args_rt_hint (a : Value) : argsOk "reversed.__length_hint__" ⟨[a], []⟩ := by
  unfold argsOk; rw [signature?_of (id := "reversed.__length_hint__") (n := ['_', '_', 't', 'n', 'i', 'h', '_', 'h', 't', 'g', 'n', 'e', 'l', '_', '_']) (o := ['d', 'e', 's', 'r', 'e', 'v', 'e', 'r']) (by kernel_rfl) owner_rt]; kernel_rfl
variable {prog : Program} {w : World} {A : Around} {E : Value → Shared → Prop} {s : Shared}
theorem walks_rt (hh : A.handled = none) (I t : Addr) (hne : t ≠ I) (items : Array Value) (hsz : items.size ≤ sizeLine) :
    Walks prog w A I [I, t] [I] items.size (fun i v => items[items.size - 1 - i]? = some v) (fun i h => i ≤ items.size ∧ IsRt h I t ((items.size : Int) - 1 - (i : Int)) ∧ IsTup h t items) where
  sub := fun b hb => by simp at hb; simp [hb]
  frame := fun _ _ _ x hk => ⟨x.1, x.2.1.at fun o e => hk I (by simp) o e, tup_at x.2.2 fun o e => hk t (by simp) o e⟩
  item := fun i s Q E hi x hQ => by
    have e : (items.size : Int) - 1 - (i : Int) = ((items.size - 1 - i : Nat) : Int) := by omega
    have hit := x.2.1
    rw [e] at hit
    have hx : items[items.size - 1 - i]? = some (items[items.size - 1 - i]'(by omega)) := Array.getElem?_eq_getElem (by omega)
    refine next_rt_item hit x.2.2 hx hsz fun h' hit' hs' => ?_
    have e2 : ((items.size - 1 - i : Nat) : Int) - 1 = (items.size : Int) - 1 - ((i + 1 : Nat) : Int) := by omega
    rw [e2] at hit'
    exact hQ _ h' (s.toks + 1) hx ⟨hi, hit', tup_at x.2.2 fun o eo => (hs'.2 t hne).trans eo⟩ fun b o hb eo => hs'.extBut b o (fun h => hb (by simp [h])) eo
  done := fun s Q E x hQ => by
    have e : (items.size : Int) - 1 - (items.size : Int) = -1 := by omega
    have hit := x.2.1
    rw [e] at hit
    exact next_rt_end hh hit fun h' he' => hQ h' s.toks fun b o hb eo => he' b o (fun h => hb (by simp [h])) eo
  self := fun _ _ _ _ x hQ => iter_rt x.2.1 hQ
theorem asInt_is (i : Int) (tk : Tok) : asInt? (Value.int i tk) = pure (some i) := rfl
theorem hint_call {it t : Addr} {items : Array Value} {Q : Value → Shared → Prop} (hit : IsRt s.heap it t ((items.size : Int) - 1)) (ht : IsTup s.heap t items) (hn : items.size ≤ sizeLine)
    (h : ∀ tk tk', Q (.int items.size tk) { s with toks := tk' }) : wpAny (model prog w) A (call (.builtin "reversed.__length_hint__") [.ref it]) Q E s := by
  obtain ⟨o, ho, hc, hd⟩ := id hit
  refine wpAny_call_entry slot_rt_hint hit.typeIs entry_rt_hint ?_ (args_rt_hint _)
  unfold Builtin.«reversed.__length_hint__»
  refine wpAny_bind (wpAny_of_eq (a := Value.ref it) rfl ?_)
  refine wpAny_bind (wpAny_field ho hd (x := .ref t) rfl ?_)
  try dsimp only
  rw [if_neg (show ¬ ((Value.ref t == Value.none) = true) from Bool.false_ne_true)]
  refine wpAny_bind (len_tuple ht (by have := line63; omega) ?_)
  refine wpAny_bind (wpAny_of_eq (a := some ((items.size : Nat) : Int)) rfl ?_)
  try dsimp only
  refine wpAny_bind (wpAny_field (s := { s with toks := s.toks + 1 + 1 }) ho hd (x := rawInt ((items.size : Int) - 1)) rfl ?_)
  show wpAny _ _ (if (items.size : Int) < (items.size : Int) - 1 + 1 then _ else retInt ((items.size : Int) - 1 + 1)) _ _ _
  rw [if_neg (by omega), show (items.size : Int) - 1 + 1 = items.size by omega]
  show wpAny _ _ (mkInt (items.size : Int) >>= _) _ _ _
  refine wpAny_bind (wpAny_mkInt ?_)
  exact wpAny_pure ⟨_, rfl, h _ _⟩
set_option maxRecDepth 100000 in
theorem collect_rt {it l : Addr} {items : Array Value} {Q : List Value → Shared → Prop} (hh : A.handled = none) (hit : IsRt s.heap it l ((items.size : Int) - 1)) (hl : IsTup s.heap l items) (hne : l ≠ it) (hn : items.size ≤ sizeLine)
    (hQ : ∀ (h' : Heap) (tk : Nat) (acc : Array Value), (∀ b o, b ≠ it → s.heap.get? b = some o → h'.get? b = some o) → ItemsOf (fun i v => items[items.size - 1 - i]? = some v) acc items.size → Q acc.toList { s with heap := h', toks := tk }) :
    wpAny (model prog w) A (collect (.ref it)) Q E s := by
  have W := (walks_rt (prog := prog) (w := w) (A := A.in1) hh it l hne items hn).toS
  obtain ⟨oi, hoi, _⟩ := id hit
  obtain ⟨ol, hol, _⟩ := id hl
  have hSi : s.heap.objs.size ≠ it := Nat.ne_of_gt (Heap.lt_size hoi)
  have hSl : s.heap.objs.size ≠ l := Nat.ne_of_gt (Heap.lt_size hol)
  have hSf : s.heap.objs.size ∉ [it, l] := by simp only [List.mem_cons, List.not_mem_nil, or_false, not_or]; exact ⟨hSi, hSl⟩
  unfold collect
  refine wpAny_bind (wpAny_runValue (codeAny_builtin F.entry_proto_collect ?_))
  rw [Around.under_plainId F.plain_proto_collect _]
  show wpAny _ A.in1 (newList [] >>= fun l' => again (.builtin "list.__iadd__" ⟨[l', .ref it], []⟩)) _ _ s
  refine wpAny_bind (wpAny_newObj_type ?_)
  refine wpAny_pure ⟨plainId_quiet F.plain_list_iadd _, codeAny_builtin F.entry_list_iadd ?_⟩
  rw [Around.under_plainId F.plain_list_iadd _]
  have hS₁ : (s.heap.push { cls := .type "list", data := .seq ([] : List Value).toArray }).get? s.heap.objs.size = some { cls := .type "list", data := .seq ([] : List Value).toArray } := Heap.get?_push_size _ rfl
  have hit1 : IsRt (s.heap.push { cls := .type "list", data := .seq ([] : List Value).toArray }) it l ((items.size : Int) - 1) := hit.at fun o e => Heap.get?_push_of_some _ e
  have hl1 : IsTup (s.heap.push { cls := .type "list", data := .seq ([] : List Value).toArray }) l items := tup_at hl fun o e => Heap.get?_push_of_some _ e
  have hT : ({ s with heap := s.heap.push { cls := .type "list", data := .seq ([] : List Value).toArray } } : Shared).TypeIs (.ref it) "reversed" := IsRt.typeIs (s := { s with heap := s.heap.push { cls := .type "list", data := .seq ([] : List Value).toArray } }) hit1
  have h1 : Builtin.List.listSameRef (.ref s.heap.objs.size) (.ref it) = false := by simp [Builtin.List.listSameRef, hSi]
  show wpAny _ A.in1 (Builtin.List.listExtendWith (.ref s.heap.objs.size) (.ref it) (.ref s.heap.objs.size)) _ _ _
  unfold Builtin.List.listExtendWith
  refine wpAny_bind (wpAny_typeOf hT ?_)
  rw [if_neg (by rw [h1]; decide)]
  refine wpAny_bind (iter_rt (s := { s with heap := s.heap.push { cls := .type "list", data := .seq ([] : List Value).toArray } }) hit1 ?_)
  refine wpAny_bind (wpAny_holding ?_)
  unfold Builtin.List.listLengthHint
  refine wpAny_bind (wpAny_specialOf hT nolen_rt ?_)
  show wpAny _ A.in1 (specialOf (Value.ref it) (Str.ofString "__length_hint__") >>= _) _ _ _
  refine wpAny_bind (wpAny_specialOf hT hint_rt ?_)
  generalize hid : ("reversed.__length_hint__" : String) = id0
  wp_delta
  rw [show splitId id0 = some ("reversed", "__length_hint__") from by subst hid; decide +kernel]
  subst hid
  refine wpAny_bind (wpAny_isInstance (b := true) hT (by rw [isSubtype_type]; kernel_rfl) ?_)
  refine wpAny_bind (wpAny_rule ?_)
  refine wpAny_bind (wpAny_of_eq (slot_rt_hint.bind (.ref it)) ?_)
  refine wpAny_bind (wpAny_attempt (hint_call hit1 hl1 hn fun tk tk' => ?_))
  dsimp only
  refine wpAny_bind ?_
  rw [asInt_is]
  refine wpAny_pure ?_
  have hn2 := line63
  have f1 : Builtin.List.listFitsIndex ((items.size : Nat) : Int) = true := by
    have a1 : -(2 ^ 63 : Int) ≤ ((items.size : Nat) : Int) := by omega
    have a2 : ((items.size : Nat) : Int) < 2 ^ 63 := by omega
    show (decide (-(2 ^ 63 : Int) ≤ ((items.size : Nat) : Int)) && decide (((items.size : Nat) : Int) < 2 ^ 63)) = true
    rw [decide_eq_true a1, decide_eq_true a2]
    rfl
  have f2 : Builtin.List.listTooLong ((items.size : Nat) : Int).toNat = false := by
    show decide (((items.size : Nat) : Int).toNat > sizeLine) = false
    exact decide_eq_false (by rw [Int.toNat_natCast]; exact Nat.not_lt.mpr hn)
  try dsimp only
  rw [f1, if_neg (show ¬ ((!true) = true) by decide), if_neg (show ¬ ((items.size : Nat) : Int) < 0 by omega), f2, if_neg Bool.false_ne_true]
  refine wpAny_pure ?_
  have e0 : ((items.size : Nat) : Int) - 1 - ((0 : Nat) : Int) = (items.size : Int) - 1 := by omega
  have fin : ∀ (h2 : Heap) (c : Nat) (tk : Nat), (∀ b o, b ≠ s.heap.objs.size → (s.heap.push { cls := .type "list", data := .seq ([] : List Value).toArray }).get? b = some o → h2.get? b = some o) → h2.get? s.heap.objs.size = some { cls := .type "list", dict := none, data := .seq #[] c, slots := #[] } →
      codeAny (model prog w) A (.builtin "list.extend.loop" ⟨[.ref s.heap.objs.size, .ref it, .ref s.heap.objs.size], []⟩) (fun r s' => match r with
    | .ok (.ret v) => wpAny (model prog w) A (match v with
        | .ref a => do
          let o ← load a
          match o.data with
          | .seq xs _ => pure xs.toList
          | _ => unsupported "internal:collect"
        | _ => unsupported "internal:collect") Q E s'
    | .ok _ => False
    | .error e => E e s') { s with heap := h2, toks := tk } := fun h2 c tk oth hS2 => by
    have n1 : it ≠ s.heap.objs.size := Ne.symm hSi
    have n2 : l ≠ s.heap.objs.size := Ne.symm hSl
    refine codeAny_extend_loopS W hn _ hSf _ items.size 0 _ _ _ rfl (Nat.zero_le _) ⟨Nat.zero_le _, by rw [e0]; exact hit1.at fun o e => oth it o n1 e, tup_at hl1 fun o e => oth l o n2 e⟩ hS2 (ItemsOf.nil _) fun s' acc' c' hm hS' hacc => ?_
    show wpAny _ A (load s.heap.objs.size >>= _) _ _ s'
    refine wpAny_bind (wpAny_load hS' ?_)
    refine wpAny_pure ?_
    rw [Moved.eq_with hm]
    refine hQ s'.heap s'.toks acc' (fun b o hb e => hm.heap b o (fun hmem => ?_) (oth b o (Nat.ne_of_lt (Heap.lt_size e)) (Heap.get?_push_of_some _ e))) hacc
    rcases List.mem_cons.mp hmem with e' | hmem
    · exact absurd (Heap.lt_size e) (by rw [e']; exact Nat.lt_irrefl _)
    · exact hb (List.mem_singleton.mp hmem)
  by_cases h0 : items.size = 0
  · rw [show ((items.size : Nat) : Int) = 0 by omega, if_neg (by decide)]
    exact wpAny_pure ⟨plainId_quiet F.plain_extend_loop _, fin _ _ _ (fun _ _ _ e => e) hS₁⟩
  · rw [if_pos (Bool.or_eq_true_iff.mpr (.inl (by simpa using h0)))]
    refine wpAny_bind (wpAny_rule ?_)
    refine wpAny_bind ?_
    show wpAny _ A.in1 (updateSeq s.heap.objs.size (·.push .none) >>= fun _ => updateSeq s.heap.objs.size (·.pop)) _ _ _
    clear hn2 f1 f2
    refine wpAny_bind (wpAny_updateSeq hS₁ rfl ?_)
    have hS₂ := Heap.get?_update_self (Obj.mapSeq (·.push Value.none)) hS₁ rfl
    refine wpAny_updateSeq hS₂ rfl ?_
    have hS₃ := Heap.get?_update_self (Obj.mapSeq (·.pop)) hS₂ rfl
    exact wpAny_pure ⟨plainId_quiet F.plain_extend_loop _, fin _ _ _ (fun b o hb e => (Heap.get?_update_other _ _ (Ne.symm hb)).trans ((Heap.get?_update_other _ _ (Ne.symm hb)).trans e)) hS₃⟩
end
section
open RT PySem
variable {X : Cx}
def tTupRevT (K : PySem.W.Frag) (te : TE) : TE := fun σ H Q => te σ H fun v H1 => ∃ (a : Addr) (xs : List V), v = .ref a ∧ SqT K H1 a xs ∧ ∀ q, H1 q = none → Q (.ref q) (upd H1 q (.tup xs.reverse))
set_option maxRecDepth 100000 in
theorem pe_tupRevT {e : Expr} {te : TE} {p p2 pos pos2 : Pos} (hc : X.calm = true) (hg : Gl X "tuple") (hm : X.mg "tuple" = none) (hg2 : Gl X "reversed") (hm2 : X.mg "reversed" = none) (he : PE X e te)
    (hs : starEach [e] X.env = (false, eval e X.env) :: starEach [] X.env := by rfl)
    (hs2 : starEach [.Call (.Name "reversed" p2) [e] [] pos2] X.env = (false, eval (.Call (.Name "reversed" p2) [e] [] pos2) X.env) :: starEach [] X.env := by rfl) :
    PE X (.Call (.Name "tuple" p) [.Call (.Name "reversed" p2) [e] [] pos2] [] pos) (tTupRevT X.K te) := by
  refine ⟨fun pins s σ H Q I h => ?_⟩
  refine Call_ (ld_blt I hg hm boot_tuple (PyProof.Rows.callWith_type1 (args_cons (Call_ (ld_blt I hg2 hm2 PyProof.Rows.boot_reversed (PyProof.Rows.callWith_type1 (args_cons (thn (he.run pins s σ H _ I h) fun u s1 ⟨v, H1, I1, r1, q1⟩ => args_nil ?_) hs) hs rfl))) hs2) hs2 rfl))
  obtain ⟨a, xs, ev, hq, q⟩ := q1
  subst ev
  obtain rfl : u = Value.ref a := r1
  obtain ⟨its, rv, pl, hz⟩ := I1.tuple hq
  have hn63 := line63
  have hn : its.toArray.size ≤ sizeLine := by rw [List.size_toArray, ← rv.length]; exact hz
  refine call_reversed_tup pl (fun A E Q k => len_tuple pl (by omega) k) (args_nil ?_)
  clear hn63
  have I2 : Inv X pins σ H1 { s1 with heap := s1.heap.push (rtObj a ((its.toArray.size : Int) - 1)), toks := s1.toks + 1 + 1 } := I1.kept (t' := s1.toks + 1 + 1) fun b o e => Heap.get?_push_of_some _ e
  obtain ⟨f0, f1, f2, f3, f4, f5⟩ := I1.fpOk (H' := H1) (b := s1.heap.objs.size) (Nat.le_refl _) (I1.hok.fresh (Nat.le_refl _))
  obtain ⟨ol, hol, _⟩ := id pl
  have hgen : ({ s1 with heap := s1.heap.push (rtObj a ((its.toArray.size : Int) - 1)), toks := s1.toks + 1 + 1 } : Shared).TypeIs (.ref s1.heap.objs.size) "reversed" := ⟨_, Heap.get?_push_size _ rfl, rfl⟩
  refine callType_codes (Q₁ := fun obj s₁ => s₁.TypeIs obj "tuple" ∧ EP X pins σ Q obj s₁) F.called_tuple (F.typeCall_tuple_1 _) F.entry_object_init ?_ fun obj s₁ h₁ => ⟨h₁.1, F.args_object_init_2 obj _, object_init_meets F.called_tuple.init.lookup F.called_tuple.made (by decide) X.prog X.w X.A.in1 _ s₁ ⟨h₁.1, rfl, h₁.2⟩⟩
  refine codeAny_of_tree ?_
  show wpAny _ X.A.in1.in1 (do checkBuiltinCall "tuple.__new__" ⟨[.type "tuple", .ref s1.heap.objs.size], []⟩; again (.builtin "tuple.__new__" ⟨[.type "tuple", .ref s1.heap.objs.size], []⟩)) _ _ _
  refine wpAny_bind (wpAny_of_eq (F.newCall_tuple_1 _) (wpAny_pure ⟨plainId_quiet F.plain_tuple_new _, codeAny_builtin F.entry_tuple_new ?_⟩))
  rw [Around.under_plainId F.plain_tuple_new _]
  have hsub := sub_tuple_self
  have hinit := init_tuple_lookup
  have hmh := madeHere_tuple
  have hit : IsRt ({ s1 with heap := s1.heap.push (rtObj a ((its.toArray.size : Int) - 1)), toks := s1.toks + 1 + 1 } : Shared).heap s1.heap.objs.size a ((its.toArray.size : Int) - 1) := ⟨_, Heap.get?_push_size _ rfl, rfl, rfl⟩
  have hl2 : IsTup ({ s1 with heap := s1.heap.push (rtObj a ((its.toArray.size : Int) - 1)), toks := s1.toks + 1 + 1 } : Shared).heap a its.toArray := tup_at pl fun o e => Heap.get?_push_of_some _ e
  have hne2 : a ≠ s1.heap.objs.size := Nat.ne_of_lt (Heap.lt_size hol)
  have hcal : X.A.in1.in1.handled = none := I1.ok.hd hc
  generalize hs2 : ({ s1 with heap := s1.heap.push (rtObj a ((its.toArray.size : Int) - 1)), toks := s1.toks + 1 + 1 } : Shared) = s2 at *
  wp_walk using wpAny_typeOf hgen, collect_rt (A := X.A.in1.in1) hcal hit hl2 hne2 hn
  intro h' tk acc hk hi
  subst hs2
  have J := I2.step (H' := H1) (h' := h') (g' := s1.gens) (d' := s1.drawn) (t' := tk) (ch := [s1.heap.objs.size])
    (fun b hb => by rw [List.mem_singleton.mp hb]; exact ⟨f3, f1, f4, f5⟩)
    (fun b o _ _ hc e _ => hk b o (fun z => hc (by rw [z]; exact List.mem_singleton.mpr rfl)) e)
    (fun b o _ _ hc e _ => ⟨o.slots, hk b o (fun z => hc (by rw [z]; exact List.mem_singleton.mpr rfl)) e⟩)
    (fun b o _ e n => n)
    (fun b o hc e => ⟨o, hk b o (fun z => hc (by rw [z]; exact List.mem_singleton.mpr rfl)) e⟩)
    (fun b ys e => e) (fun b o ys e => e) (fun b ps e => ⟨#[], by rw [e]; simp⟩)
    (fun m hm => by
      obtain ⟨o, es, ep, ho, r⟩ := hm
      exact ⟨o, es, ep, hk _ o (Ne.symm f1) ho, r⟩)
    (fun b u e => by
      refine (I2.hok b u e).stay (fun d v hd q => hk d v ?_ q) (fun d q => q) fun d ys q => q
      rcases hd with rfl | hd
      · exact fun z => by rw [z, f0] at e; cases e
      · exact fun z => by rw [z, f0] at hd; cases hd) I2.bare
  have vv : Vals xs.reverse acc.toList := RT.vals_rev rv hi
  show wpAny _ _ (Builtin.Tuple.tupleExact acc.toList.toArray >>= fun v => ret v) _ _ _
  unfold Builtin.Tuple.tupleExact
  refine wpAny_bind (wpAny_newObj_type ?_ (by show acc.toList.toArray.size ≤ sizeLine; rw [List.size_toArray, ← vv.length, List.length_reverse]; exact hz))
  refine wpAny_pure ?_
  refine ⟨⟨_, Heap.get?_push_size _ rfl, rfl⟩, .ref h'.objs.size, _, J.laid (t' := tk) (o := .tup xs.reverse) (fun b ob q => Heap.get?_push_of_some _ q) (Nat.le_refl _) ?_, rfl, q _ (J.hok.fresh (Nat.le_refl _))⟩
  exact ⟨by rw [List.length_reverse]; exact hz, acc.toList, vv, IsTup.new _ _⟩
end
end FF
namespace FF
open PySem PySem.Spec PyProof.Rows L2
variable [LT]
def top (i : Nat) : Stmt := PySem.Challenge.pw_fewforests_k42_cheapest_bent.main.body.getD i (.Pass ⟨0, 0, 0, 0⟩)
abbrev s_is_number : Stmt := top 1
abbrev s_is_rising : Stmt := top 2
abbrev s_leader_of : Stmt := top 3
abbrev s_join_points : Stmt := top 4
abbrev s_ringless : Stmt := top 6
abbrev s_right_laying : Stmt := top 8
abbrev s_ties_by_forest : Stmt := top 9
abbrev s_is_lot : Stmt := top 11
abbrev s_right_cheapest : Stmt := top 13
abbrev s_is_reason : Stmt := top 14
abbrev s_is_cheaper : Stmt := top 15
abbrev s_cheapness : Stmt := top 16
abbrev s_is_tight_by : Stmt := top 17
abbrev s_law_mixed : Stmt := top 19
abbrev s_law_deck : Stmt := top 20
abbrev s_law_next : Stmt := top 21
abbrev s_law_tie : Stmt := top 22
abbrev s_law_any_web : Stmt := top 23
abbrev s_law_round : Stmt := top 24
abbrev s_law_full : Stmt := top 25
abbrev s_law_tree : Stmt := top 26
abbrev s_law_web : Stmt := top 27
abbrev s_law_heads : Stmt := top 28
abbrev s_law_is_forest : Stmt := top 29
abbrev s_law_is_int : Stmt := top 30
abbrev s_law_is_true : Stmt := top 31
abbrev s_law_lot : Stmt := top 32
abbrev s_law_odd_things : Stmt := top 33
abbrev s_law_lots : Stmt := top 34
abbrev s_law_can : Stmt := top 35
abbrev s_law_order : Stmt := top 36
abbrev s_law_cheapest : Stmt := top 37
abbrev s_law_spread : Stmt := top 38
abbrev s_law_prices : Stmt := top 39
abbrev s_law_priced : Stmt := top 40
abbrev s_law_cheaper_within : Stmt := top 41
abbrev s_law_is_lot : Stmt := top 42
abbrev s_law_is_reason : Stmt := top 43
abbrev s_law_is_laying : Stmt := top 44
abbrev s_law_is_cheapest : Stmt := top 45
abbrev s_law_paper : Stmt := top 46
abbrev s_law_with : Stmt := top 47
abbrev s_law_laying_bent : Stmt := top 48
abbrev s_law_reasons_bent : Stmt := top 49
abbrev s_law_bent : Stmt := top 50
abbrev s_law : Stmt := top 51

/-! ### built-ins and constants of the text -/
structure Blt (mg : Str → Option Value) : Prop where
  b_all : mg "all" = none
  b_bool : mg "bool" = none
  b_dict : mg "dict" = none
  b_enumerate : mg "enumerate" = none
  b_int : mg "int" = none
  b_isinstance : mg "isinstance" = none
  b_len : mg "len" = none
  b_list : mg "list" = none
  b_max : mg "max" = none
  b_min : mg "min" = none
  b_range : mg "range" = none
  b_reversed : mg "reversed" = none
  b_set : mg "set" = none
  b_sorted : mg "sorted" = none
  b_str : mg "str" = none
  b_tuple : mg "tuple" = none
  b_zip : mg "zip" = none
def Tabs (tb : List Addr) (H : Hp) : Prop := ∀ P ∈ tb, TabG H P
theorem Tabs.kx {tb : List Addr} {S : Addr → Prop} {H H1 : Hp} (h : Tabs tb H) (k : Kx S H H1) : Tabs tb H1 := fun P hP => k.tab P (h P hP)
theorem Tabs.dk {tb : List Addr} {p : Addr} {H H1 : Hp} (h : Tabs tb H) (k : Dk p H H1) : Tabs tb H1 := h.kx k.k
theorem Tabs.new {tb : List Addr} {p : Addr} {H : Hp} {o : HO} (h : Tabs tb H) (k : H p = none) : Tabs tb (upd H p o) := h.kx (S := fun _ => False) (Ke.new k)
abbrev nm_is_number : List Str := ["thing", "least", "most"]
theorem sc_is_number : FnScope nm_is_number ["thing", "least", "most"] (defScope s_is_number) := ⟨rfl, rfl, rfl, by decide +kernel, rfl, by decide +kernel, by decide +kernel⟩
/-! ### is_number -/
def sp_is_number (_ : PySem.W.Frag) (_ : List Addr) : Sp := fun vs H Q _ => ∃ (v : V) (lo hi : Int) (n : String), vs = [v, .int lo, .int hi] ∧ TyN H v n ∧ Q (.bl (isNum v lo hi)) H
abbrev nm_is_rising : List Str := ["thing", "most", "least", "number"]
theorem sc_is_rising : FnScope nm_is_rising ["thing", "most"] (defScope s_is_rising) := ⟨rfl, rfl, rfl, by decide +kernel, rfl, by decide +kernel, by decide +kernel⟩
/-! ### is_rising -/
def sp_is_rising (K : PySem.W.Frag) (_ : List Addr) : Sp := fun vs H Q _ => ∃ (t : V) (m : Int) (o : Option (List V)), vs = [t, .int m] ∧ ThK K H t o ∧ Q (.bl (risO m o)) H
abbrev nm_leader_of : List Str := ["leaders", "point"]
theorem sc_leader_of : FnScope nm_leader_of ["leaders", "point"] (defScope s_leader_of) := ⟨rfl, rfl, rfl, by decide +kernel, rfl, by decide +kernel, by decide +kernel⟩
/-! ### leader_of -/
def sp_leader_of (_ : PySem.W.Frag) (_ : List Addr) : Sp := fun vs H Q _ => ∃ (p : Addr) (ls : List Int) (n : Int) (r : Int → Int) (d : Int → Nat) (x : Int), vs = [.ref p, .int x] ∧ H p = some (.lst (ls.map V.int)) ∧ UF n ls r d ∧ 0 ≤ x ∧ x < n ∧
  ∀ ls', UF n ls' r d → Q (.int (r x)) (upd H p (.lst (ls'.map V.int)))
abbrev nm_join_points : List Str := ["leaders", "a", "b", "first", "second"]
theorem sc_join_points : FnScope nm_join_points ["leaders", "a", "b"] (defScope s_join_points) := ⟨rfl, rfl, rfl, by decide +kernel, rfl, by decide +kernel, by decide +kernel⟩
/-! ### join_points -/
def sp_join_points (_ : PySem.W.Frag) (_ : List Addr) : Sp := fun vs H Q _ => ∃ (p : Addr) (ls : List Int) (n : Int) (r : Int → Int) (d : Int → Nat) (a b : Int), vs = [.ref p, .int a, .int b] ∧ H p = some (.lst (ls.map V.int)) ∧ UF n ls r d ∧ 0 ≤ a ∧ a < n ∧ 0 ≤ b ∧ b < n ∧
  ∀ ls' d', UF n ls' (rstep r (a, b)) d' → Q (.bl (!decide (r a = r b))) (upd H p (.lst (ls'.map V.int)))
abbrev nm_ringless : List Str := ["web", "ties", "leaders", "number", "a", "b"]
theorem sc_ringless : FnScope nm_ringless ["web", "ties"] (defScope s_ringless) := ⟨rfl, rfl, rfl, by decide +kernel, rfl, by decide +kernel, by decide +kernel⟩
/-! ### ringless -/
def sp_ringless (_ : PySem.W.Frag) (_ : List Addr) : Sp := fun vs H Q _ => ∃ (v : V) (n : Int) (ts : List (Int × Int)) (u : Addr) (ms : List Int), vs = [v, .ref u] ∧ Web H v n ts ∧ (H u = some (.lst (ms.map V.int)) ∨ H u = some (.tup (ms.map V.int))) ∧ TOk n ts ∧ 0 ≤ n ∧ n ≤ 1000 ∧ (∀ m ∈ ms, 0 ≤ m ∧ m < ts.length) ∧
  ∀ H', Ke H H' → Q (.bl (ringlessF (fun x => x) (pick ts ms))) H'
abbrev nm_ties_by_forest : List Str := ["laying", "forests", "number", "forest"]
theorem sc_ties_by_forest : FnScope nm_ties_by_forest ["laying"] (defScope s_ties_by_forest) := ⟨rfl, rfl, rfl, by decide +kernel, rfl, by decide +kernel, by decide +kernel⟩
/-! ### ties_by_forest -/
def sp_ties_by_forest (_ : PySem.W.Frag) (_ : List Addr) : Sp := fun vs H Q _ => ∃ (u : Addr) (ws : List V), vs = [.ref u] ∧ H u = some (.tup ws) ∧ (∀ x ∈ ws, IsO x) ∧ ws.length ≤ 1000 ∧
  ∀ H' d (fl : List (Int × Addr)), Ke H H' → H d = none → H' d = some (.dK (kvF fl)) → Byf H' ws fl → Q (.ref d) H'
abbrev nm_right_laying : List Str := ["web", "k", "thing", "forests"]
theorem sc_right_laying : FnScope nm_right_laying ["web", "k", "thing"] (defScope s_right_laying) := ⟨rfl, rfl, rfl, by decide +kernel, rfl, by decide +kernel, by decide +kernel⟩
theorem gnd_right_laying_0 : (["k", "entry"] : List Str).Nodup := by decide +kernel
theorem gnd_right_laying_1 : (["web", "numbers"] : List Str).Nodup := by decide +kernel
/-! ### right_laying -/
def sp_right_laying (_ : PySem.W.Frag) (tb : List Addr) : Sp := fun vs H Q _ => ∃ (v t : V) (n : Int) (ts : List (Int × Int)) (k : Int) (o : Option (List V)), vs = [v, .int k, t] ∧ Web H v n ts ∧ Tpl H t o ∧ TOk n ts ∧ 0 ≤ n ∧ n ≤ 1000 ∧ ts.length ≤ 1000 ∧ Tabs tb H ∧
  ∀ H', Ke H H' → Q (.bl (layO ts k o)) H'
abbrev nm_is_lot : List Str := ["web", "thing"]
theorem sc_is_lot : FnScope nm_is_lot ["web", "thing"] (defScope s_is_lot) := ⟨rfl, rfl, rfl, by decide +kernel, rfl, by decide +kernel, by decide +kernel⟩
/-! ### is_lot -/
def sp_is_lot (K : PySem.W.Frag) (_ : List Addr) : Sp := fun vs H Q _ => ∃ (v t : V) (n : Int) (ts : List (Int × Int)) (o : Option (List V)), vs = [v, t] ∧ Web H v n ts ∧ ThK K H t o ∧ Q (.bl (lotO n o)) H
abbrev nm_is_tight_by : List Str := ["web", "k", "laying", "lot", "numbers", "number", "ties", "tie", "inside"]
theorem sc_is_tight_by : FnScope nm_is_tight_by ["web", "k", "laying", "lot", "numbers"] (defScope s_is_tight_by) := ⟨rfl, rfl, rfl, by decide +kernel, rfl, by decide +kernel, by decide +kernel⟩
/-! ### is_tight_by -/
def sp_is_tight_by (_ : PySem.W.Frag) (_ : List Addr) : Sp := fun vs H Q _ => ∃ (v : V) (n : Int) (ts : List (Int × Int)) (k : Int) (u : Addr) (ws : List V) (a : Addr) (ls : List Int) (l : Addr) (ms : List Int),
  vs = [v, .int k, .ref u, .ref a, .ref l] ∧ Web H v n ts ∧ H u = some (.tup ws) ∧ ws.length = ts.length ∧ H a = some (.tup (ls.map V.int)) ∧ H l = some (.lst (ms.map V.int)) ∧ (∀ m ∈ ms, 0 ≤ m ∧ m < ts.length) ∧ 0 ≤ k ∧ k ≤ 1000000 ∧ ms.length ≤ 1000000 ∧
  ∀ H', Ke H H' → Q (.bl (decide ((inside ls (pick ts (laidM ws ms)) : Int) = k * ((ls.length : Int) - 1)))) H'
abbrev nm_cheapness : List Str := ["prices", "tie"]
theorem sc_cheapness : FnScope nm_cheapness ["prices", "tie"] (defScope s_cheapness) := ⟨rfl, rfl, rfl, by decide +kernel, rfl, by decide +kernel, by decide +kernel⟩
/-! ### cheapness -/
def sp_cheapness (_ : PySem.W.Frag) (_ : List Addr) : Sp := fun vs H Q _ => ∃ (v : V) (ps : List Int) (m : Nat) (j : Int), vs = [v, .int j] ∧ Prc H v ps m ∧ 0 ≤ j ∧ j < (m : Int) ∧
  ∀ H' p, Ke H H' → H p = none → H' p = some (.tup [.int (ps.getD j.toNat 0), .int j]) → Q (.ref p) H'
abbrev nm_is_cheaper : List Str := ["prices", "one", "other"]
theorem sc_is_cheaper : FnScope nm_is_cheaper ["prices", "one", "other"] (defScope s_is_cheaper) := ⟨rfl, rfl, rfl, by decide +kernel, rfl, by decide +kernel, by decide +kernel⟩
/-! ### is_cheaper -/
def sp_is_cheaper (_ : PySem.W.Frag) (_ : List Addr) : Sp := fun vs H Q _ => ∃ (v : V) (ps : List Int) (m : Nat) (i j : Int), vs = [v, .int i, .int j] ∧ Prc H v ps m ∧ 0 ≤ i ∧ i < (m : Int) ∧ 0 ≤ j ∧ j < (m : Int) ∧
  ∀ H', Ke H H' → Q (.bl (decide (chB ps i.toNat j.toNat))) H'
abbrev nm_is_reason : List Str := ["web", "k", "prices", "laying", "tie", "thing", "a", "b", "other", "cheaper"]
theorem sc_is_reason : FnScope nm_is_reason ["web", "k", "prices", "laying", "tie", "thing"] (defScope s_is_reason) := ⟨rfl, rfl, rfl, by decide +kernel, rfl, by decide +kernel, by decide +kernel⟩
/-! ### is_reason -/
def sp_is_reason (_ : PySem.W.Frag) (_ : List Addr) : Sp := fun vs H Q _ => ∃ (v : V) (n : Int) (ts : List (Int × Int)) (k : Int) (pr : V) (ps : List Int) (u : Addr) (ws : List V) (i : Nat) (t : V), vs = [v, .int k, pr, .ref u, .int (i : Int), t] ∧ Web H v n ts ∧ Prc H pr ps ts.length ∧ TOk n ts ∧ H u = some (.tup ws) ∧ LayK ts k ws ∧ i < ts.length ∧ DT 1 H t ∧ ts.length ≤ 1000 ∧ 0 ≤ k ∧ k ≤ 1000 ∧
  ∀ H', Ke H H' → Q (.bl (reasB ts n k ps ws i H t)) H'
abbrev nm_right_cheapest : List Str := ["web", "k", "prices", "thing", "laying", "reasons"]
theorem sc_right_cheapest : FnScope nm_right_cheapest ["web", "k", "prices", "thing"] (defScope s_right_cheapest) := ⟨rfl, rfl, rfl, by decide +kernel, rfl, by decide +kernel, by decide +kernel⟩
theorem gnd_right_cheapest_0 : (["web", "k", "prices", "laying", "tie", "reason"] : List Str).Nodup := by decide +kernel
/-! ### right_cheapest -/
def sp_right_cheapest (_ : PySem.W.Frag) (tb : List Addr) : Sp := fun vs H Q _ => ∃ (v : V) (n : Int) (ts : List (Int × Int)) (k : Int) (pr : V) (ps : List Int) (t : V), vs = [v, .int k, pr, t] ∧ Web H v n ts ∧ Prc H pr ps ts.length ∧ TOk n ts ∧ 0 ≤ n ∧ n ≤ 1000 ∧ ts.length ≤ 1000 ∧ 0 ≤ k ∧ k ≤ 1000 ∧ DT 3 H t ∧ Tabs tb H ∧
  ∀ H', Ke H H' → Q (.bl (cheapB ts n k ps H t)) H'
abbrev nm__law_mixed : List Str := ["_law_cell", "_law_k", "_law_number"]
theorem sc__law_mixed : FnScope nm__law_mixed ["_law_cell", "_law_k"] (defScope s_law_mixed) := ⟨rfl, rfl, rfl, by decide +kernel, rfl, by decide +kernel, by decide +kernel⟩
/-! ### _law_mixed -/
def sp__law_mixed (_ : PySem.W.Frag) (_ : List Addr) : Sp := fun vs H Q _ => ∃ c k : Int, vs = [.int c, .int k] ∧ 0 ≤ k ∧ k < 1000000 ∧ ∀ r : Int, 0 ≤ r → Q (.int r) H
abbrev nm__law_deck : List Str := ["_law_script", "_law_many", "_law_own", "_law_cell", "_law_rest", "_law_deck_here", "_law_k", "_law_at"]
theorem sc__law_deck : FnScope nm__law_deck ["_law_script", "_law_many"] (defScope s_law_deck) := ⟨rfl, rfl, rfl, by decide +kernel, rfl, by decide +kernel, by decide +kernel⟩
/-! ### _law_deck -/
def sp__law_deck (K : PySem.W.Frag) (_ : List Addr) : Sp := fun vs H Q _ => ∃ (a : Addr) (ns : List Int) (n : Int), vs = [.ref a, .int n] ∧ SqL K H a (ns.map V.int) ∧ ns.length ≤ 63 ∧ 0 ≤ n ∧ n ≤ 5000 ∧
  ∀ p H', H p = none → Ke H H' → Deck H' p → Q (.ref p) H'
abbrev nm__law_next : List Str := ["_law_deck_here"]
theorem sc__law_next : FnScope nm__law_next ["_law_deck_here"] (defScope s_law_next) := ⟨rfl, rfl, rfl, by decide +kernel, rfl, by decide +kernel, by decide +kernel⟩
/-! ### _law_next -/
def sp__law_next (_ : PySem.W.Frag) (_ : List Addr) : Sp := fun vs H Q _ => ∃ p : Addr, vs = [.ref p] ∧ Deck H p ∧ ∀ (r : Int) (H' : Hp), 0 ≤ r → r < 1000 → Dk p H H' → Q (.int r) H'
abbrev nm__law_tie : List Str := ["_law_deck_here", "_law_points", "_law_a", "_law_b"]
theorem sc__law_tie : FnScope nm__law_tie ["_law_deck_here", "_law_points"] (defScope s_law_tie) := ⟨rfl, rfl, rfl, by decide +kernel, rfl, by decide +kernel, by decide +kernel⟩
/-! ### _law_tie -/
def sp__law_tie (_ : PySem.W.Frag) (_ : List Addr) : Sp := fun vs H Q _ => ∃ (p : Addr) (n : Int), vs = [.ref p, .int n] ∧ Deck H p ∧ 2 ≤ n ∧
  ∀ (a b : Int) (t : Addr) (H1 : Hp), 0 ≤ a → a < b → b < n → Dk p H H1 → H1 t = none → Q (.ref t) (upd H1 t (.tup [.int a, .int b]))
abbrev nm__law_any_web : List Str := ["_law_deck_here", "_law_points", "_law_most", "_law_ties", "_law_k"]
theorem sc__law_any_web : FnScope nm__law_any_web ["_law_deck_here", "_law_points", "_law_most"] (defScope s_law_any_web) := ⟨rfl, rfl, rfl, by decide +kernel, rfl, by decide +kernel, by decide +kernel⟩
/-! ### _law_any_web -/
def sp__law_any_web (_ : PySem.W.Frag) (_ : List Addr) : Sp := fun vs H Q _ => ∃ (p : Addr) (n m : Int), vs = [.ref p, .int n, .int m] ∧ Deck H p ∧ 1 ≤ n ∧ n ≤ 1000 ∧ 0 ≤ m ∧ m ≤ 1000 ∧
  ∀ (H' : Hp) (v : V) (ts : List (Int × Int)), Dk p H H' → Web H' v n ts → (ts.length : Int) ≤ m → TOk n ts → (n = 1 → ts = []) → Q v H'
abbrev nm__law_round : List Str := ["_law_points", "_law_k"]
theorem sc__law_round : FnScope nm__law_round ["_law_points"] (defScope s_law_round) := ⟨rfl, rfl, rfl, by decide +kernel, rfl, by decide +kernel, by decide +kernel⟩
/-! ### _law_round -/
def sp__law_round (_ : PySem.W.Frag) (_ : List Addr) : Sp := fun vs H Q _ => ∃ n : Int, vs = [.int n] ∧ 2 ≤ n ∧ n ≤ 1000 ∧
  ∀ (H' : Hp) (l : Addr) (ts : List (Int × Int)), Ke H H' → H l = none → TL H' l ts → (ts.length : Int) ≤ n → TOk n ts → Q (.ref l) H'
abbrev nm__law_full : List Str := ["_law_points", "_law_found", "_law_b", "_law_a"]
theorem sc__law_full : FnScope nm__law_full ["_law_points"] (defScope s_law_full) := ⟨rfl, rfl, rfl, by decide +kernel, rfl, by decide +kernel, by decide +kernel⟩
/-! ### _law_full -/
def sp__law_full (_ : PySem.W.Frag) (_ : List Addr) : Sp := fun vs H Q _ => ∃ n : Int, vs = [.int n] ∧ 0 ≤ n ∧ n ≤ 100 ∧
  ∀ (H' : Hp) (l : Addr) (ts : List (Int × Int)), Ke H H' → H l = none → TL H' l ts → (ts.length : Int) ≤ 10000 → TOk n ts → Q (.ref l) H'
abbrev nm__law_tree : List Str := ["_law_deck_here", "_law_points", "_law_k"]
theorem sc__law_tree : FnScope nm__law_tree ["_law_deck_here", "_law_points"] (defScope s_law_tree) := ⟨rfl, rfl, rfl, by decide +kernel, rfl, by decide +kernel, by decide +kernel⟩
/-! ### _law_tree -/
def sp__law_tree (_ : PySem.W.Frag) (_ : List Addr) : Sp := fun vs H Q _ => ∃ (p : Addr) (n : Int), vs = [.ref p, .int n] ∧ Deck H p ∧ 1 ≤ n ∧ n ≤ 1000 ∧
  ∀ (H' : Hp) (l : Addr) (ts : List (Int × Int)), Dk p H H' → H l = none → TL H' l ts → (ts.length : Int) ≤ n → TOk n ts → Q (.ref l) H'
abbrev nm__law_web : List Str := ["_law_deck_here", "_law_points", "_law_most", "_law_sort", "_law_size", "_law_more", "_law_ties", "_law_turn"]
theorem sc__law_web : FnScope nm__law_web ["_law_deck_here", "_law_points", "_law_most"] (defScope s_law_web) := ⟨rfl, rfl, rfl, by decide +kernel, rfl, by decide +kernel, by decide +kernel⟩
/-! ### _law_web -/
def sp__law_web (_ : PySem.W.Frag) (_ : List Addr) : Sp := fun vs H Q _ => ∃ (p : Addr) (M m : Int), vs = [.ref p, .int M, .int m] ∧ Deck H p ∧ 1 ≤ M ∧ M ≤ 100 ∧ 0 ≤ m ∧ m ≤ 1000 ∧
  ∀ (H' : Hp) (v : V) (n : Int) (ts : List (Int × Int)), Dk p H H' → Web H' v n ts → 1 ≤ n → n ≤ M → (ts.length : Int) ≤ m → TOk n ts → Q v H'
abbrev nm__law_heads : List Str := ["_law_points", "_law_ties", "_law_found", "_law_a", "_law_b", "_law_one", "_law_other", "_law_head"]
theorem sc__law_heads : FnScope nm__law_heads ["_law_points", "_law_ties"] (defScope s_law_heads) := ⟨rfl, rfl, rfl, by decide +kernel, rfl, by decide +kernel, by decide +kernel⟩
/-! ### _law_heads -/
def sp__law_heads (_ : PySem.W.Frag) (_ : List Addr) : Sp := fun vs H Q _ => ∃ (n : Int) (u : Addr) (rs : List V) (ts : List (Int × Int)), vs = [.int n, .ref u] ∧ H u = some (.lst rs) ∧ Ties H rs ts ∧ TOk n ts ∧ 0 ≤ n ∧ n ≤ 1000 ∧
  ∀ l H', Ke H H' → H' l = some (.lst ((headsF (upTo n) ts).map V.int)) → Q (.ref l) H'
abbrev nm__law_is_forest : List Str := ["_law_points", "_law_ties"]
theorem sc__law_is_forest : FnScope nm__law_is_forest ["_law_points", "_law_ties"] (defScope s_law_is_forest) := ⟨rfl, rfl, rfl, by decide +kernel, rfl, by decide +kernel, by decide +kernel⟩
/-! ### _law_is_forest -/
def sp__law_is_forest (_ : PySem.W.Frag) (_ : List Addr) : Sp := fun vs H Q _ => ∃ (n : Int) (u : Addr) (rs : List V) (ts : List (Int × Int)), vs = [.int n, .ref u] ∧ H u = some (.lst rs) ∧ Ties H rs ts ∧ TOk n ts ∧ 0 ≤ n ∧ n ≤ 1000 ∧
  ∀ H', Ke H H' → Q (.bl (ringlessF (fun x => x) ts)) H'
abbrev nm__law_is_int : List Str := ["_law_thing", "_law_least", "_law_most"]
theorem sc__law_is_int : FnScope nm__law_is_int ["_law_thing", "_law_least", "_law_most"] (defScope s_law_is_int) := ⟨rfl, rfl, rfl, by decide +kernel, rfl, by decide +kernel, by decide +kernel⟩
/-! ### _law_is_int -/
def sp__law_is_int (_ : PySem.W.Frag) (_ : List Addr) : Sp := fun vs H Q _ => ∃ (v : V) (lo hi : Int) (n : String), vs = [v, .int lo, .int hi] ∧ TyN H v n ∧ Q (.bl (isNum v lo hi)) H
abbrev nm__law_is_true : List Str := ["_law_found", "_law_due"]
theorem sc__law_is_true : FnScope nm__law_is_true ["_law_found", "_law_due"] (defScope s_law_is_true) := ⟨rfl, rfl, rfl, by decide +kernel, rfl, by decide +kernel, by decide +kernel⟩
/-! ### _law_is_true -/
def sp__law_is_true (_ : PySem.W.Frag) (_ : List Addr) : Sp := fun vs H Q _ => ∃ a b : Bool, vs = [.bl a, .bl b] ∧ Q (.bl (decide (a = b))) H
abbrev nm__law_lot : List Str := ["_law_deck_here", "_law_points", "_law_cell", "_law_k", "_law_found"]
theorem sc__law_lot : FnScope nm__law_lot ["_law_deck_here", "_law_points"] (defScope s_law_lot) := ⟨rfl, rfl, rfl, by decide +kernel, rfl, by decide +kernel, by decide +kernel⟩
/-! ### _law_lot -/
def sp__law_lot (_ : PySem.W.Frag) (_ : List Addr) : Sp := fun vs H Q _ => ∃ (p : Addr) (n : Int), vs = [.ref p, .int n] ∧ Deck H p ∧ 1 ≤ n ∧ n ≤ 1000 ∧
  ∀ (H' : Hp) (a : Addr) (ls : List Int), Dk p H H' → H a = none → H' a = some (.tup (ls.map V.int)) → Lot n ls → Q (.ref a) H'
abbrev nm__law_odd_things : List Str := ["_law_found"]
theorem sc__law_odd_things : FnScope nm__law_odd_things [] (defScope s_law_odd_things) := ⟨rfl, rfl, rfl, by decide +kernel, rfl, by decide +kernel, by decide +kernel⟩
/-! ### _law_odd_things -/
def sp__law_odd_things (_ : PySem.W.Frag) (_ : List Addr) : Sp := fun vs H Q _ => vs = [] ∧ ∀ H' l xs, Ke H H' → H l = none → H' l = some (.lst xs) → ThD H' xs → xs.length ≤ 100 → 0 < xs.length → Q (.ref l) H'
abbrev nm__law_lots : List Str := ["_law_points", "_law_found", "_law_k", "_law_lot_here"]
theorem sc__law_lots : FnScope nm__law_lots ["_law_points"] (defScope s_law_lots) := ⟨rfl, rfl, rfl, by decide +kernel, rfl, by decide +kernel, by decide +kernel⟩
/-! ### _law_lots -/
def sp__law_lots (_ : PySem.W.Frag) (_ : List Addr) : Sp := fun vs H Q _ => ∃ (n : Nat), vs = [.int n] ∧ n ≤ 12 ∧
  ∀ (H' : Hp) (l : Addr) (rs : List V), Ke H H' → H l = none → H' l = some (.lst rs) → Lots H' rs ((lotsF n).filter fun l => !l.isEmpty) → Q (.ref l) H'
abbrev nm__law_can : List Str := ["_law_points", "_law_ties", "_law_k", "_law_lot_here", "_law_a", "_law_b"]
theorem sc__law_can : FnScope nm__law_can ["_law_points", "_law_ties", "_law_k"] (defScope s_law_can) := ⟨rfl, rfl, rfl, by decide +kernel, rfl, by decide +kernel, by decide +kernel⟩
/-! ### _law_can -/
def sp__law_can (_ : PySem.W.Frag) (_ : List Addr) : Sp := fun vs H Q _ => ∃ (n : Nat) (l : Addr) (ts : List (Int × Int)) (k : Int), vs = [.int (n : Int), .ref l, .int k] ∧ TL H l ts ∧ n ≤ 12 ∧ ts.length ≤ 1000 ∧ 0 ≤ k ∧ k ≤ 1000 ∧
  ∀ H', Ke H H' → Q (.bl (canF n ts k)) H'
abbrev nm__law_order : List Str := ["_law_prices_here"]
theorem sc__law_order : FnScope nm__law_order ["_law_prices_here"] (defScope s_law_order) := ⟨rfl, rfl, rfl, by decide +kernel, rfl, by decide +kernel, by decide +kernel⟩
/-! ### _law_order -/
def sp__law_order (_ : PySem.W.Frag) (_ : List Addr) (lt : List (Addr × Str)) : Sp := fun vs H Q _ => ∃ (v : V) (ps : List Int) (m : Nat), vs = [v] ∧ Prc H v ps m ∧ m ≤ 500 ∧ LTabs lt H ∧
  ∀ H' l, Kl lt H H' → LTabs lt H' → H l = none → H' l = some (.lst (nV (ordN ps))) → Q (.ref l) H'
abbrev nm__law_cheapest : List Str := ["_law_web_here", "_law_k", "_law_prices_here", "_law_found", "_law_tie_here", "_law_one"]
theorem sc__law_cheapest : FnScope nm__law_cheapest ["_law_web_here", "_law_k", "_law_prices_here"] (defScope s_law_cheapest) := ⟨rfl, rfl, rfl, by decide +kernel, rfl, by decide +kernel, by decide +kernel⟩
/-! ### _law_cheapest -/
def sp__law_cheapest (_ : PySem.W.Frag) (_ : List Addr) (lt : List (Addr × Str)) : Sp := fun vs H Q _ => ∃ (v : V) (n : Nat) (ts : List (Int × Int)) (k : Int) (pr : V) (ps : List Int), vs = [v, .int k, pr] ∧ Web H v (n : Int) ts ∧ Prc H pr ps ts.length ∧ TOk (n : Int) ts ∧ n ≤ 12 ∧ ts.length ≤ 500 ∧ 0 ≤ k ∧ k ≤ 1000 ∧ LTabs lt H ∧
  ∀ H' l M, Kl lt H H' → LTabs lt H' → M.Perm (greF n ts k [] (ordN ps)) → M.Pairwise (· < ·) → H l = none → H' l = some (.lst (nV M)) → Q (.ref l) H'
abbrev nm__law_spread : List Str := ["_law_points", "_law_ties", "_law_k", "_law_found", "_law_tried", "_law_forest", "_law_j", "_law_own"]
theorem sc__law_spread : FnScope nm__law_spread ["_law_points", "_law_ties", "_law_k"] (defScope s_law_spread) := ⟨rfl, rfl, rfl, by decide +kernel, rfl, by decide +kernel, by decide +kernel⟩
/-! ### _law_spread -/
def sp__law_spread (_ : PySem.W.Frag) (_ : List Addr) : Sp := fun vs H Q _ => ∃ (n : Nat) (u : Addr) (rs : List V) (ts : List (Int × Int)) (k : Int), vs = [.int (n : Int), .ref u, .int k] ∧ H u = some (.lst rs) ∧ Ties H rs ts ∧ TOk (n : Int) ts ∧ n ≤ 1000 ∧ ts.length ≤ 500 ∧ 0 ≤ k ∧ k ≤ 1000 ∧
  (∀ H', Ke H H' → canF n ts k = false → Q .non H') ∧
  ∀ H' l g, Ke H H' → H l = none → H' l = some (.lst (g.map V.int)) → Whl ts k g → Q (.ref l) H'
abbrev nm__law_prices : List Str := ["_law_deck_here", "_law_many", "_law_cell", "_law_menu", "_law_found", "_law_k", "_law_price"]
theorem sc__law_prices : FnScope nm__law_prices ["_law_deck_here", "_law_many"] (defScope s_law_prices) := ⟨rfl, rfl, rfl, by decide +kernel, rfl, by decide +kernel, by decide +kernel⟩
/-! ### _law_prices -/
def sp__law_prices (_ : PySem.W.Frag) (_ : List Addr) : Sp := fun vs H Q _ => ∃ (p : Addr) (m : Nat), vs = [.ref p, .int (m : Int)] ∧ Deck H p ∧ m ≤ 200 ∧
  ∀ (H' : Hp) (v : V) (ps : List Int), Dk p H H' → Prc H' v ps m → (∀ x ∈ ps, 0 ≤ x ∧ x ≤ 1000000000) → Q v H'
abbrev nm__law_priced : List Str := ["_law_deck_here", "_law_web_here"]
theorem sc__law_priced : FnScope nm__law_priced ["_law_deck_here"] (defScope s_law_priced) := ⟨rfl, rfl, rfl, by decide +kernel, rfl, by decide +kernel, by decide +kernel⟩
/-! ### _law_priced -/
def sp__law_priced (_ : PySem.W.Frag) (_ : List Addr) : Sp := fun vs H Q _ => ∃ (p : Addr), vs = [.ref p] ∧ Deck H p ∧
  ∀ (H' : Hp) (x : Addr) (v : V) (n : Nat) (ts : List (Int × Int)) (k : Int) (pr : V) (ps : List Int), Dk p H H' → H' x = some (.tup [v, .int k, pr]) → Web H' v (n : Int) ts → 1 ≤ n → n ≤ 5 → ts.length ≤ 8 → TOk (n : Int) ts → 0 ≤ k → k < 4 → Prc H' pr ps ts.length → (∀ x ∈ ps, 0 ≤ x ∧ x ≤ 1000000000) → Q (.ref x) H'
abbrev nm__law_cheaper_within : List Str := ["_law_web_here", "_law_prices_here", "_law_laying", "_law_lot_here", "_law_tie_here", "_law_forest", "_law_found", "_law_one", "_law_a", "_law_b"]
theorem sc__law_cheaper_within : FnScope nm__law_cheaper_within ["_law_web_here", "_law_prices_here", "_law_laying", "_law_lot_here", "_law_tie_here", "_law_forest"] (defScope s_law_cheaper_within) := ⟨rfl, rfl, rfl, by decide +kernel, rfl, by decide +kernel, by decide +kernel⟩
/-! ### _law_cheaper_within -/
def sp__law_cheaper_within (_ : PySem.W.Frag) (_ : List Addr) : Sp := fun vs H Q _ => ∃ (v : V) (n : Int) (ts : List (Int × Int)) (pr : V) (ps : List Int) (u : Addr) (ws : List V) (b : Addr) (ls : List Int) (i : Nat) (f : Int), vs = [v, pr, .ref u, .ref b, .int (i : Int), .int f] ∧ Web H v n ts ∧ Prc H pr ps ts.length ∧ H u = some (.tup ws) ∧ ws.length = ts.length ∧ (∀ x ∈ ws, IsO x) ∧ H b = some (.tup (ls.map V.int)) ∧ i < ts.length ∧ ts.length ≤ 1000 ∧
  ∀ H' l, Ke H H' → H l = none → H' l = some (.lst (nV (chW ts ps ws ls i f ts.length))) → Q (.ref l) H'
abbrev nm__law_is_lot : List Str := ["_law_web_here", "_law_thing", "_law_one"]
theorem sc__law_is_lot : FnScope nm__law_is_lot ["_law_web_here", "_law_thing"] (defScope s_law_is_lot) := ⟨rfl, rfl, rfl, by decide +kernel, rfl, by decide +kernel, by decide +kernel⟩
/-! ### _law_is_lot -/
def sp__law_is_lot (_ : PySem.W.Frag) (_ : List Addr) : Sp := fun vs H Q _ => ∃ (v : V) (n : Int) (ts : List (Int × Int)) (t : V), vs = [v, t] ∧ Web H v n ts ∧ 0 ≤ n ∧ n ≤ 1000 ∧ DT 1 H t ∧
  ∀ H', Ke H H' → Q (.bl (lotO n (rdT H t))) H'
abbrev nm__law_is_reason : List Str := ["_law_web_here", "_law_k", "_law_prices_here", "_law_laying", "_law_tie_here", "_law_thing", "_law_forest"]
theorem sc__law_is_reason : FnScope nm__law_is_reason ["_law_web_here", "_law_k", "_law_prices_here", "_law_laying", "_law_tie_here", "_law_thing"] (defScope s_law_is_reason) := ⟨rfl, rfl, rfl, by decide +kernel, rfl, by decide +kernel, by decide +kernel⟩
/-! ### _law_is_reason -/
def sp__law_is_reason (_ : PySem.W.Frag) (_ : List Addr) : Sp := fun vs H Q _ => ∃ (v : V) (n : Int) (ts : List (Int × Int)) (k : Int) (pr : V) (ps : List Int) (u : Addr) (ws : List V) (i : Nat) (t : V), vs = [v, .int k, pr, .ref u, .int (i : Int), t] ∧ Web H v n ts ∧ TOk n ts ∧ Prc H pr ps ts.length ∧ H u = some (.tup ws) ∧ LayK ts k ws ∧ i < ts.length ∧ 0 ≤ n ∧ n ≤ 1000 ∧ ts.length ≤ 1000 ∧ 0 ≤ k ∧ k ≤ 1000 ∧ DT 1 H t ∧
  ∀ H', Ke H H' → Q (.bl (lotR ts n k ps ws i (rdT H t))) H'
abbrev nm__law_is_laying : List Str := ["_law_web_here", "_law_k", "_law_thing", "_law_one", "_law_forest", "_law_j"]
theorem sc__law_is_laying : FnScope nm__law_is_laying ["_law_web_here", "_law_k", "_law_thing"] (defScope s_law_is_laying) := ⟨rfl, rfl, rfl, by decide +kernel, rfl, by decide +kernel, by decide +kernel⟩
/-! ### _law_is_laying -/
def sp__law_is_laying (_ : PySem.W.Frag) (_ : List Addr) : Sp := fun vs H Q _ => ∃ (v t : V) (n : Int) (ts : List (Int × Int)) (k : Int) (o : Option (List V)), vs = [v, .int k, t] ∧ Web H v n ts ∧ Tpl H t o ∧ TOk n ts ∧ 0 ≤ n ∧ n ≤ 1000 ∧ ts.length ≤ 200 ∧ 0 ≤ k ∧ k ≤ 1000 ∧
  ∀ H', Ke H H' → Q (.bl (layO ts k o)) H'
abbrev nm__law_is_cheapest : List Str := ["_law_web_here", "_law_k", "_law_prices_here", "_law_thing", "_law_laying", "_law_reasons", "_law_tie_here", "_law_reason"]
theorem sc__law_is_cheapest : FnScope nm__law_is_cheapest ["_law_web_here", "_law_k", "_law_prices_here", "_law_thing"] (defScope s_law_is_cheapest) := ⟨rfl, rfl, rfl, by decide +kernel, rfl, by decide +kernel, by decide +kernel⟩
/-! ### _law_is_cheapest -/
def sp__law_is_cheapest (_ : PySem.W.Frag) (_ : List Addr) : Sp := fun vs H Q _ => ∃ (v : V) (n : Int) (ts : List (Int × Int)) (k : Int) (pr : V) (ps : List Int) (t : V), vs = [v, .int k, pr, t] ∧ Web H v n ts ∧ TOk n ts ∧ Prc H pr ps ts.length ∧ 0 ≤ n ∧ n ≤ 1000 ∧ ts.length ≤ 200 ∧ 0 ≤ k ∧ k ≤ 1000 ∧ DT 3 H t ∧
  ∀ H', Ke H H' → Q (.bl (cheapB ts n k ps H t)) H'
abbrev nm__law_paper : List Str := ["_law_deck_here", "_law_web_here", "_law_k", "_law_prices_here", "_law_laid", "_law_tie_here", "_law_forests", "_law_turn", "_law_forest", "_law_places", "_law_laying", "_law_reasons", "_law_some", "_law_lot_here"]
theorem sc__law_paper : FnScope nm__law_paper ["_law_deck_here", "_law_web_here", "_law_k", "_law_prices_here"] (defScope s_law_paper) := ⟨rfl, rfl, rfl, by decide +kernel, rfl, by decide +kernel, by decide +kernel⟩
/-! ### _law_paper -/
def sp__law_paper (_ : PySem.W.Frag) (_ : List Addr) (lt : List (Addr × Str)) : Sp := fun vs H Q _ => ∃ (p : Addr) (v : V) (n : Nat) (ts : List (Int × Int)) (k : Int) (pr : V) (ps : List Int), vs = [.ref p, v, .int k, pr] ∧ Deck H p ∧ Web H v (n : Int) ts ∧ Prc H pr ps ts.length ∧ TOk (n : Int) ts ∧ 1 ≤ n ∧ n ≤ 12 ∧ ts.length ≤ 60 ∧ 0 ≤ k ∧ k ≤ 900 ∧ LTabs lt H ∧
  ∀ H0 H' x u c ws xs lo, Kl lt H H0 → LTabs lt H0 → Dk p H0 H' → H' x = some (.tup [.ref u, .ref c]) → H' u = some (.tup ws) → H' c = some (.tup xs) → LoP H' xs lo → PapR ts (n : Int) k ps ws lo → Q (.ref x) H'
abbrev nm__law_with : List Str := ["_law_row", "_law_at", "_law_thing"]
theorem sc__law_with : FnScope nm__law_with ["_law_row", "_law_at", "_law_thing"] (defScope s_law_with) := ⟨rfl, rfl, rfl, by decide +kernel, rfl, by decide +kernel, by decide +kernel⟩
/-! ### _law_with -/
def sp__law_with (_ : PySem.W.Frag) (_ : List Addr) : Sp := fun vs H Q _ => ∃ (a : Addr) (xs : List V) (i : Int) (v : V), vs = [.ref a, .int i, v] ∧ H a = some (.tup xs) ∧ ThD H xs ∧ DT 5 H v ∧ xs.length ≤ 400 ∧ ∀ H' r ys, Ke H H' → H' r = some (.tup ys) → ThD H' ys → ys.length ≤ 2 * xs.length + 1 → Q (.ref r) H'
abbrev nm__law_laying_bent : List Str := ["_law_deck_here", "_law_k", "_law_laying", "_law_cell", "_law_at", "_law_other", "_law_menu"]
theorem sc__law_laying_bent : FnScope nm__law_laying_bent ["_law_deck_here", "_law_k", "_law_laying"] (defScope s_law_laying_bent) := ⟨rfl, rfl, rfl, by decide +kernel, rfl, by decide +kernel, by decide +kernel⟩
/-! ### _law_laying_bent -/
def sp__law_laying_bent (_ : PySem.W.Frag) (_ : List Addr) : Sp := fun vs H Q _ => ∃ (p : Addr) (k : Int) (u : Addr) (ws : List V), vs = [.ref p, .int k, .ref u] ∧ Deck H p ∧ H u = some (.tup ws) ∧ ThD H ws ∧ ws.length ≤ 100 ∧ 0 ≤ k ∧ k ≤ 1000 ∧ ∀ H' v, Dk p H H' → DT 5 H' v → Q v H'
abbrev nm__law_reasons_bent : List Str := ["_law_deck_here", "_law_web_here", "_law_reasons", "_law_cell", "_law_at", "_law_lot_here", "_law_odd", "_law_own", "_law_less", "_law_more", "_law_menu", "_law_spot", "_law_one"]
theorem sc__law_reasons_bent : FnScope nm__law_reasons_bent ["_law_deck_here", "_law_web_here", "_law_reasons"] (defScope s_law_reasons_bent) := ⟨rfl, rfl, rfl, by decide +kernel, rfl, by decide +kernel, by decide +kernel⟩
/-! ### _law_reasons_bent -/
def sp__law_reasons_bent (_ : PySem.W.Frag) (_ : List Addr) : Sp := fun vs H Q _ => ∃ (p : Addr) (v : V) (n : Nat) (ts : List (Int × Int)) (c : Addr) (xs : List V) (lo : List (Option (List Int))), vs = [.ref p, v, .ref c] ∧ Deck H p ∧ Web H v (n : Int) ts ∧ 1 ≤ n ∧ n ≤ 100 ∧ H c = some (.tup xs) ∧ LoP H xs lo ∧ (∀ o ∈ lo, ∀ ls, o = some ls → Lot (n : Int) ls) ∧ xs.length ≤ 100 ∧ ∀ H' v, Dk p H H' → DT 5 H' v → Q v H'
abbrev nm__law_bent : List Str := ["_law_deck_here", "_law_web_here", "_law_k", "_law_paper_here", "_law_laying", "_law_reasons", "_law_cell", "_law_odd", "_law_thing"]
theorem sc__law_bent : FnScope nm__law_bent ["_law_deck_here", "_law_web_here", "_law_k", "_law_paper_here"] (defScope s_law_bent) := ⟨rfl, rfl, rfl, by decide +kernel, rfl, by decide +kernel, by decide +kernel⟩
/-! ### _law_bent -/
def sp__law_bent (_ : PySem.W.Frag) (_ : List Addr) : Sp := fun vs H Q _ => ∃ (p : Addr) (v : V) (n : Nat) (ts : List (Int × Int)) (k : Int) (x u c : Addr) (ws xs : List V) (lo : List (Option (List Int))), vs = [.ref p, v, .int k, .ref x] ∧ Deck H p ∧ Web H v (n : Int) ts ∧ 1 ≤ n ∧ n ≤ 100 ∧ 0 ≤ k ∧ k ≤ 1000 ∧ H x = some (.tup [.ref u, .ref c]) ∧ H u = some (.tup ws) ∧ ThD H ws ∧ H c = some (.tup xs) ∧ LoP H xs lo ∧ (∀ o ∈ lo, ∀ ls, o = some ls → Lot (n : Int) ls) ∧ ws.length ≤ 100 ∧ xs.length ≤ 100 ∧ ∀ H' v, Dk p H H' → DT 5 H' v → Q v H'
abbrev nm_law : List Str := ["_law_script", "_law_deck_here", "_law_turn", "_law_web_here", "_law_k", "_law_prices_here", "_law_paper_here", "_law_kept", "_law_j", "_law_thing", "_law_due", "_law_other"]
theorem sc_law : FnScope nm_law ["_law_script"] (defScope s_law) := ⟨rfl, rfl, rfl, by decide +kernel, rfl, by decide +kernel, by decide +kernel⟩
/-! ### law -/
def sp_law (K : PySem.W.Frag) (tb : List Addr) (lt : List (Addr × Str)) : Sp := fun vs H Q _ => ∃ (a : Addr) (ns : List Int), vs = [.ref a] ∧ SqL K H a (ns.map V.int) ∧ ns.length ≤ 63 ∧ Tabs tb H ∧ LTabs lt H ∧ ∀ H', Q (.bl true) H'
theorem law_start {K : PySem.W.Frag} {tb : List Addr} {lt : List (Addr × Str)} {H : Hp} {a : Addr} {ns : List Int} (hl : ns.length ≤ 63) (_ : ∀ z ∈ ns, Builtin.Int.intBits z ≤ 1048576) (hT : Tabs tb H) (hL : LTabs lt H) (hS : SqL K H a (ns.map V.int)) : sp_law K tb lt [.ref a] H (fun v _ => v = .bl true) (fun _ _ _ => False) :=
  ⟨a, ns, rfl, hS, hl, hT, hL, fun _ => rfl⟩
end FF
namespace FF
open PySem PySem.Spec PyProof.Rows L2
variable [LT]
theorem ok_is_number {P : Program} {w : World} {K : PySem.W.Frag} {mg : Str → Option Value} {base : Heap} {tb : List Addr} {lt : List (Addr × Str)} {f : Addr} {fd : FuncData} (T : Blt mg) (D_is_number : DefAt K mg "is_number" s_is_number ["thing", "least", "most"] f fd) (LO : LtOk lt) :
    FnOk P w K mg base CX0 1 f fd ["thing", "least", "most"] (sp_is_number K tb) := by
  refine D_is_number.ok sc_is_number (fun vs H Q E h => by
    obtain ⟨v, lo, hi, n, rfl, hv, q⟩ := h
    all_goals rfl) fun A outer s H vs Q E hr h => ?_
  obtain ⟨v, lo, hi, n, rfl, hv, q⟩ := h
  refine ⟨_, pss_cons (ps_if (PW.pt (pw_or (pt_not (pt_val (pe_callB (isiK (K := K)) (by rfl) T.b_isinstance (by decide +kernel) (pa_cons (pv 0) (pa_cons (pe_bltn (v := .ty "int") (u := .type "int") (by rfl) T.b_int (by decide +kernel) rfl) pa_nil))))) (pw_or1 (pt_val (pe_callB (isiK (K := K)) (by rfl) T.b_isinstance (by decide +kernel) (pa_cons (pv 0) (pa_cons (pe_bltn (v := .ty "bool") (u := .type "bool") (by rfl) T.b_bool (by decide +kernel) rfl) pa_nil)))))))
     (pss_one (ps_ret (pe_bl)))
     (pss_nil))
     (pss_one (ps_ret (pe_chain op_le op_le (pv 1) (pv 0) (pv 2)))), ?_⟩
  refine ⟨_, rfl, v, _, _, _, _, rfl, .ty _, hv.x, hv.isi (.inl rfl), _, rfl, ?_⟩
  cases hv with
  | int i =>
    refine iteF ⟨_, rfl, _, _, _, _, false, rfl, .ty _, (TyN.int i).x, (TyN.int (H := H) i).isi (.inr (.inl rfl)), false, rfl, iteF ?_⟩
    refine ⟨_, rfl, _, rfl, _, _, rfl, rfl, _, rfl, iteB (fun e => ⟨_, rfl, _, _, rfl, rfl, ?_⟩) (fun e => ?_)⟩
    · have z : isNum (.int i) lo hi = decide (i ≤ hi) := by show (decide (lo ≤ i) && decide (i ≤ hi)) = _; rw [e, Bool.true_and]
      rw [z] at q
      exact q
    · have z : isNum (.int i) lo hi = false := by show (decide (lo ≤ i) && decide (i ≤ hi)) = _; rw [e, Bool.false_and]
      rw [z] at q
      exact q
  | bl b => exact iteF ⟨_, rfl, _, _, _, _, true, rfl, .ty _, (TyN.bl b).x, (TyN.bl (H := H) b).isi (.inr (.inl rfl)), true, rfl, iteT q⟩
  | non => exact iteT (iteT q)
  | str x => exact iteT (iteT q)
  | lst h => exact iteT (iteT q)
  | tup h => exact iteT (iteT q)
  | dic h => exact iteT (iteT q)
theorem ok_is_rising {P : Program} {w : World} {K : PySem.W.Frag} {mg : Str → Option Value} {base : Heap} {tb : List Addr} {lt : List (Addr × Str)} {f : Addr} {fd : FuncData} {f_is_number : Addr} {fd_is_number : FuncData} (T : Blt mg) (D_is_rising : DefAt K mg "is_rising" s_is_rising ["thing", "most"] f fd) (LO : LtOk lt) (D_is_number : DefAt K mg "is_number" s_is_number ["thing", "least", "most"] f_is_number fd_is_number) (G_is_number : FnOk P w K mg base CX0 1 f_is_number fd_is_number ["thing", "least", "most"] (sp_is_number K tb)) :
    FnOk P w K mg base CX0 2 f fd ["thing", "most"] (sp_is_rising K tb) := by
  refine D_is_rising.ok sc_is_rising (fun vs H Q E h => by
    obtain ⟨t, m, o, rfl, ht, q⟩ := h
    all_goals rfl) fun A outer s H vs Q E hr h => ?_
  obtain ⟨t, m, o, rfl, ht, q⟩ := h
  refine ⟨_, pss_cons (ps_if (pt_not (pt_val (pe_callB (isiK (K := K)) (by rfl) T.b_isinstance (by decide +kernel) (pa_cons (pv 0) (pa_cons (pe_bltn (v := .ty "tuple") (u := .type "tuple") (by rfl) T.b_tuple (by decide +kernel) rfl) pa_nil)))))
     (pss_one (ps_ret (pe_bl)))
     (pss_nil))
     (pss_cons (ps_set (i := 2) sc_is_rising.nd rfl (.inl rfl) (pe_int))
     (pss_cons (ps_for PassesOwn.never rfl (pi_tup (pv 0)) (pg_name (i := 3) sc_is_rising.nd rfl (.inl rfl))
     (pss_cons (ps_if (pt_not (pt_val (pe_call G_is_number (hr.mono (by decide)) (by rfl) D_is_number.g D_is_number.F.kp D_is_number.b .nil pass0 (pa_cons (pv 3) (pa_cons (pv 2) (pa_cons (pv 1) pa_nil))))))
     (pss_one (ps_ret (pe_bl)))
     (pss_nil))
     (pss_one (ps_set (i := 2) sc_is_rising.nd rfl (.inl rfl) (pe_op op_add (pv 3) (pe_int))))))
     (pss_one (ps_ret (pe_bl))))), ?_⟩
  cases ht with
  | @no _ nm h hn =>
    refine ⟨_, rfl, t, _, _, _, _, rfl, .ty _, h.x, isi_no h hn, _, rfl, ?_⟩
    exact iteT q
  | @yes a xs h ht hx =>
    refine ⟨_, rfl, _, _, _, _, true, rfl, .ty _, ht, isi_yes, true, rfl, iteF ?_⟩
    refine ⟨_, rfl, a, rfl, ⟨_, h⟩, ?_⟩
    refine for_tup (K := K) (a := a) (xs := xs) (fun i σ G => ∃ (lo : Int) (y : Option V), σ = [some (.ref a), some (.int m), some (.int lo), y] ∧ G = H ∧ rising (m + 1) 0 xs = rising (m + 1) lo (xs.drop i)) ⟨0, none, rfl, rfl, rfl⟩ (fun i σ G _ hG => ?_) (fun i x σ G hxi hG => ?_) (fun σ G hG => ?_)
    · obtain ⟨lo, y, _, rfl, _⟩ := hG
      exact h
    · obtain ⟨lo, y, rfl, rfl, hr⟩ := hG
      have hi : i < xs.length := (List.getElem?_eq_some_iff.mp hxi).1
      have hd : xs.drop i = x :: xs.drop (i + 1) := by
        rw [List.drop_eq_getElem_cons hi]
        congr 1
        exact Option.some.inj ((List.getElem?_eq_getElem hi).symm.trans hxi)
      rw [hd] at hr
      obtain ⟨nm, hty⟩ := hx x (List.mem_of_getElem? hxi)
      refine ⟨_, rfl, _, rfl, _, rfl, x, lo, m, nm, rfl, hty, _, rfl, ?_⟩
      cases x with
      | int j =>
        have hr2 : rising (m + 1) 0 xs = (isNum (.int j) lo (m + 1 - 1) && rising (m + 1) (j + 1) (xs.drop (i + 1))) := hr
        rw [Int.add_sub_cancel] at hr2
        cases hb : isNum (.int j) lo m with
        | false =>
          rw [hb, Bool.false_and] at hr2
          have q : Q (.bl (rising (m + 1) 0 xs)) G := q
          rw [hr2] at q
          exact iteT q
        | true =>
          rw [hb, Bool.true_and] at hr2
          exact iteF ⟨_, rfl, _, _, rfl, rfl, j + 1, _, rfl, rfl, hr2⟩
      | _ =>
        have hr2 : rising (m + 1) 0 xs = false := hr
        have q : Q (.bl (rising (m + 1) 0 xs)) G := q
        rw [hr2] at q
        exact iteT q
    · obtain ⟨lo, y, rfl, rfl, hr⟩ := hG
      rw [List.drop_of_length_le (Nat.le_refl _)] at hr
      have hr2 : rising (m + 1) 0 xs = true := hr
      have q : Q (.bl (rising (m + 1) 0 xs)) G := q
      rw [hr2] at q
      exact q
theorem ok_leader_of {P : Program} {w : World} {K : PySem.W.Frag} {mg : Str → Option Value} {base : Heap} {tb : List Addr} {lt : List (Addr × Str)} {f : Addr} {fd : FuncData} (T : Blt mg) (D_leader_of : DefAt K mg "leader_of" s_leader_of ["leaders", "point"] f fd) (LO : LtOk lt) :
    FnOk P w K mg base CX0 1 f fd ["leaders", "point"] (sp_leader_of K tb) := by
  refine D_leader_of.ok sc_leader_of (fun vs H Q E h => by
    obtain ⟨p, ls, n, r, d, x, rfl, hp, u, x0, x1, q⟩ := h
    all_goals rfl) fun A outer s H vs Q E hr h => ?_
  obtain ⟨p, ls, n, r, d, x, rfl, hp, u, x0, x1, q⟩ := h
  refine ⟨_, pss_cons (ps_while PassesOwn.never (pt_cmpR op_ne (pe_ix (ix_listK (K := K)) (pv 0) (pv 1) (fun _ _ => rfl)) (pv 1) (nomark _))
     (pss_cons (ps_asg (pe_ix (ix_listK (K := K)) (pv 0) (pe_ix (ix_listK (K := K)) (pv 0) (pv 1) (fun _ _ => rfl)) (fun _ _ => rfl)) (pg_sub (pv 0) (pv 1) set_list))
     (pss_one (ps_set (i := 1) sc_leader_of.nd rfl (.inl rfl) (pe_ix (ix_listK (K := K)) (pv 0) (pv 1) (fun _ _ => rfl))))))
     (pss_one (ps_ret (pv 1))), ?_⟩
  refine while_by (fun σ G => ∃ (y : Int) (ls' : List Int), σ = [some (.ref p), some (.int y)] ∧ G = upd H p (.lst (ls'.map V.int)) ∧ UF n ls' r d ∧ 0 ≤ y ∧ y < n ∧ r y = r x) (fun σ _ => match σ with | [_, some (.int y)] => d y | _ => 0) ?_ (fun σ G hG => ?_) ?_
  · exact ⟨x, ls, rfl, (upd_id hp).symm, u, x0, x1, rfl⟩
  · obtain ⟨y, ls', rfl, rfl, u', y0, y1, hr⟩ := hG
    have hl := u'.len
    obtain ⟨z0, z1⟩ := u'.rng y y0 y1
    obtain ⟨w0, w1⟩ := u'.rng _ z0 z1
    refine ⟨_, rfl, _, rfl, p, _, _, _, rfl, rfl, sqL_of upd_same, hat_at y0 (by omega), _, rfl, rfl, _, rfl, iteB (fun e => ?_) (fun e => ?_)⟩
    · have hne : hat ls' y ≠ y := fun z => by
        have e : (!decide (V.int (hat ls' y) = V.int y)) = true := e
        rw [z, decide_eq_true rfl] at e
        cases e
      have u2 := u'.half y0 y1 hne
      have hs : hat (ls'.set y.toNat (hat ls' (hat ls' y))) y = hat ls' (hat ls' y) := by rw [hat_set y0 (by omega) y0, if_pos rfl]
      have hdd : d (hat ls' (hat ls' y)) < d y := by
        have h1 := u'.down y y0 y1 hne
        by_cases e : hat ls' (hat ls' y) = hat ls' y
        · rw [e]; exact h1
        · have := u'.down _ z0 z1 e
          omega
      refine ⟨_, rfl, _, rfl, _, rfl, p, _, _, _, rfl, rfl, sqL_of upd_same, hat_at y0 (by omega), p, _, _, _, rfl, rfl, sqL_of upd_same, hat_at z0 (by omega), _, rfl, _, rfl, p, _, _, _, rfl, rfl, upd_same, ix_in y0 (by rw [List.length_map]; omega), ?_⟩
      rw [upd_upd, ← List.map_set]
      refine ⟨_, rfl, _, rfl, p, _, _, _, rfl, rfl, sqL_of upd_same, hat_at y0 (by rw [List.length_set]; omega), ?_⟩
      rw [hs]
      exact ⟨⟨_, _, rfl, rfl, u2, w0, w1, (u'.root _ z0 z1).trans ((u'.root y y0 y1).trans hr)⟩, hdd⟩
    · have he : hat ls' y = y := by
        by_cases z : hat ls' y = y
        · exact z
        · have e : (!decide (V.int (hat ls' y) = V.int y)) = false := e
          rw [decide_eq_false fun q => z (V.int.inj q)] at e
          cases e
      have q1 := q ls' u'
      rw [← hr, u'.top y y0 y1 he] at q1
      exact ⟨_, rfl, q1⟩
  · rintro σ G Q1 Q2 hQ ⟨a, ha, b, hb, p1, xs, i, v, e1, e2, hs, hv, c, hc, hsc, k, hk, hq⟩
    exact ⟨a, ha, b, hb, p1, xs, i, v, e1, e2, hs, hv, c, hc, hsc, k, hk, hQ _ _ hq⟩
theorem ok_join_points {P : Program} {w : World} {K : PySem.W.Frag} {mg : Str → Option Value} {base : Heap} {tb : List Addr} {lt : List (Addr × Str)} {f : Addr} {fd : FuncData} {f_leader_of : Addr} {fd_leader_of : FuncData} (T : Blt mg) (D_join_points : DefAt K mg "join_points" s_join_points ["leaders", "a", "b"] f fd) (LO : LtOk lt) (D_leader_of : DefAt K mg "leader_of" s_leader_of ["leaders", "point"] f_leader_of fd_leader_of) (G_leader_of : FnOk P w K mg base CX0 1 f_leader_of fd_leader_of ["leaders", "point"] (sp_leader_of K tb)) :
    FnOk P w K mg base CX0 2 f fd ["leaders", "a", "b"] (sp_join_points K tb) := by
  refine D_join_points.ok sc_join_points (fun vs H Q E h => by
    obtain ⟨p, ls, n, r, d, a, b, rfl, hp, u, a0, a1, b0, b1, q⟩ := h
    all_goals rfl) fun A outer s H vs Q E hr h => ?_
  obtain ⟨p, ls, n, r, d, a, b, rfl, hp, u, a0, a1, b0, b1, q⟩ := h
  refine ⟨_, pss_cons (ps_set (i := 3) sc_join_points.nd rfl (.inl rfl) (pe_call G_leader_of (hr.mono (by decide)) (by rfl) D_leader_of.g D_leader_of.F.kp D_leader_of.b .nil pass0 (pa_cons (pv 0) (pa_cons (pv 1) pa_nil))))
     (pss_cons (ps_set (i := 4) sc_join_points.nd rfl (.inl rfl) (pe_call G_leader_of (hr.mono (by decide)) (by rfl) D_leader_of.g D_leader_of.F.kp D_leader_of.b .nil pass0 (pa_cons (pv 0) (pa_cons (pv 2) pa_nil))))
     (pss_cons (ps_asg (pv 3) (pg_sub (pv 0) (pv 4) set_list))
     (pss_one (ps_ret (pe_cmpR op_ne (pv 3) (pv 4) (nomark _)))))), ?_⟩
  refine ⟨_, rfl, _, rfl, p, ls, n, r, d, a, rfl, hp, u, a0, a1, fun l1 u1 => ?_⟩
  refine ⟨_, rfl, _, rfl, p, l1, n, r, d, b, rfl, upd_same, u1, b0, b1, fun l2 u2 => ?_⟩
  rw [upd_upd]
  obtain ⟨q0, q1, _⟩ := u2.rr b b0 b1
  have hl := u2.len
  refine ⟨_, rfl, _, rfl, _, rfl, p, _, _, _, rfl, rfl, upd_same, ix_in q0 (by rw [List.length_map]; omega), ?_⟩
  rw [upd_upd, ← List.map_set]
  obtain ⟨d', u3⟩ := u2.join a0 a1 b0 b1
  have qq := q _ d' u3
  refine ⟨_, rfl, _, rfl, rfl, ?_⟩
  have e : decide (V.int (r a) = V.int (r b)) = decide (r a = r b) := by
    by_cases z : r a = r b
    · rw [decide_eq_true z, decide_eq_true (congrArg V.int z)]
    · rw [decide_eq_false z, decide_eq_false fun h => z (V.int.inj h)]
  rw [e]
  exact qq
theorem ok_ringless {P : Program} {w : World} {K : PySem.W.Frag} {mg : Str → Option Value} {base : Heap} {tb : List Addr} {lt : List (Addr × Str)} {f : Addr} {fd : FuncData} {f_join_points : Addr} {fd_join_points : FuncData} (T : Blt mg) (D_ringless : DefAt K mg "ringless" s_ringless ["web", "ties"] f fd) (LO : LtOk lt) (D_join_points : DefAt K mg "join_points" s_join_points ["leaders", "a", "b"] f_join_points fd_join_points) (G_join_points : FnOk P w K mg base CX0 2 f_join_points fd_join_points ["leaders", "a", "b"] (sp_join_points K tb)) :
    FnOk P w K mg base CX0 3 f fd ["web", "ties"] (sp_ringless K tb) := by
  refine D_ringless.ok sc_ringless (fun vs H Q E h => by
    obtain ⟨v, n, ts, u, ms, rfl, W, hu, hok, hn0, hn1, hm, q⟩ := h
    all_goals rfl) fun A outer s H vs Q E hr h => ?_
  obtain ⟨v, n, ts, u, ms, rfl, W, hu, hok, hn0, hn1, hm, q⟩ := h
  refine ⟨_, pss_cons (ps_set (i := 2) sc_ringless.nd rfl (.inl rfl) (pe_listRg rfl (by rfl) T.b_list (prg_1 (by rfl) T.b_range (pe_ix (ix_tupK (K := K)) (pv 0) (pe_int) (fun _ _ => rfl)))))
     (pss_cons (ps_for PassesOwn.never rfl ((pi_seq (K := K)) (pv 1)) (pg_name (i := 3) sc_ringless.nd rfl (.inl rfl))
     (pss_cons (ps_asg (pe_ix (ix_tupK (K := K)) (pe_ix (ix_tupK (K := K)) (pv 0) (pe_int) (fun _ _ => rfl)) (pv 3) (fun _ _ => rfl)) (tgtK (K := K) (n := 2) (pgs_cons (pg_name (i := 4) sc_ringless.nd rfl (.inl rfl)) (pgs_cons (pg_name (i := 5) sc_ringless.nd rfl (.inl rfl)) pgs_nil))))
     (pss_one (ps_if (pt_not (pt_val (pe_call G_join_points (hr.mono (by decide)) (by rfl) D_join_points.g D_join_points.F.kp D_join_points.b .nil pass0 (pa_cons (pv 2) (pa_cons (pv 4) (pa_cons (pv 5) pa_nil))))))
     (pss_one (ps_ret (pe_bl)))
     (pss_nil)))))
     (pss_one (ps_ret (pe_bl)))), ?_⟩
  obtain ⟨t, w, rs, rfl, ht, hw, hT⟩ := W
  refine ⟨_, rfl, t, _, 0, _, rfl, rfl, sqT_of ht, atI_nat (j := 0) rfl, n, rfl, ⟨by omega, by omega, by omega, by omega, by omega⟩, fun l nl => ?_⟩
  rcases hu with hu | hu
  · refine ⟨_, rfl, u, _, rfl, .inl ⟨sqL_of (lst_new nl hu), ?_⟩⟩
    refine for_list (K := K) (a := u) (xs := ms.map V.int) (fun i σ G => ∃ (y3 y4 y5 : Option V) (ls : List Int) (d : Int → Nat), σ = [some (.ref t), some (.ref u), some (.ref l), y3, y4, y5] ∧ Ke H G ∧ G l = some (.lst (ls.map V.int)) ∧ UF n ls (foldR (fun x => x) (pick ts (ms.take i))) d ∧ ringlessF (fun x => x) (pick ts (ms.take i)) = true) ⟨_, _, _, upTo n, _, rfl, Ke.new nl, by rw [← rgV_up]; exact upd_same, UF.start hn0, rfl⟩ (fun i σ G _ hG => ?_) (fun i x σ G hx hG => ?_) (fun σ G hG => ?_)
    · obtain ⟨_, _, _, _, _, _, kG, _⟩ := hG
      exact sqL_of (kG.lst hu)
    · obtain ⟨y3, y4, y5, ls, d, rfl, kG, gl, U, hF⟩ := hG
      obtain ⟨m, hm0, rfl⟩ := int_at hx
      obtain ⟨m0, m1⟩ := hm m (List.mem_of_getElem? hm0)
      obtain ⟨e, he, hq⟩ := hT.at_ m0 m1
      have ok := hok _ (List.mem_of_getElem? (getD_at m0 m1))
      have ok1 := ok.1
      have ok2 := ok.2.1
      have ok3 := ok.2.2
      have ep : pick ts (ms.take (i + 1)) = pick ts (ms.take i) ++ [ts.getD m.toNat (0, 0)] := by rw [take_next hm0, pick_append]; rfl
      have er : pick ts ms = (pick ts (ms.take i) ++ [ts.getD m.toNat (0, 0)]) ++ pick ts (ms.drop (i + 1)) := by rw [← ep, ← pick_append, List.take_append_drop]
      have hmo := ringlessF_more hF (ts.getD m.toNat (0, 0))
      obtain ⟨g, hg⟩ : ∃ g, g = ts.getD m.toNat (0, 0) := ⟨_, rfl⟩
      rw [← hg] at ok1 ok2 ok3 hq hmo ep er
      refine ⟨_, rfl, t, _, 1, _, rfl, rfl, sqT_of (kG.tup ht), atI_nat (j := 1) rfl, _, rfl, w, _, m, _, rfl, rfl, sqT_of (kG.tup hw), he, ?_⟩
      refine ⟨e, _, rfl, sqT_of (kG.tup hq), rfl, _, _, rfl, _, [], rfl, rfl, ?_⟩
      refine ⟨_, rfl, _, rfl, _, rfl, l, ls, n, _, d, g.1, g.2, rfl, gl, U, ok1, Int.lt_trans ok2 ok3, Int.le_trans ok1 (Int.le_of_lt ok2), ok3, fun ls' d' U' => ?_⟩
      refine ⟨_, rfl, iteB (fun hb => ?_) (fun hb => ?_)⟩
      · have hz : ringlessF (fun x => x) (pick ts ms) = false := by
          rw [er]
          refine ringlessF_bad _ _ _ ?_
          rw [hmo]
          revert hb
          cases decide (foldR (fun x => x) (pick ts (ms.take i)) g.1 = foldR (fun x => x) (pick ts (ms.take i)) g.2)
          · intro hb; cases hb
          · intro _; rfl
        have q1 := q _ (kG.over (o := .lst (ls'.map V.int)) nl)
        rw [hz] at q1
        exact q1
      · have hz : ringlessF (fun x => x) (pick ts (ms.take (i + 1))) = true := by
          rw [ep, hmo]
          revert hb
          cases decide (foldR (fun x => x) (pick ts (ms.take i)) g.1 = foldR (fun x => x) (pick ts (ms.take i)) g.2)
          · intro _; rfl
          · intro hb; cases hb
        exact ⟨_, _, _, ls', d', rfl, kG.over nl, upd_same, by rw [ep, foldR_snoc]; exact U', hz⟩
    · obtain ⟨_, _, _, _, _, rfl, kG, _, _, hF⟩ := hG
      have q1 := q G kG
      rw [List.length_map, List.take_length] at hF
      rw [hF] at q1
      exact q1
  · refine ⟨_, rfl, u, _, rfl, .inr ⟨sqT_of (tup_new nl hu), ?_⟩⟩
    refine for_tup (K := K) (a := u) (xs := ms.map V.int) (fun i σ G => ∃ (y3 y4 y5 : Option V) (ls : List Int) (d : Int → Nat), σ = [some (.ref t), some (.ref u), some (.ref l), y3, y4, y5] ∧ Ke H G ∧ G l = some (.lst (ls.map V.int)) ∧ UF n ls (foldR (fun x => x) (pick ts (ms.take i))) d ∧ ringlessF (fun x => x) (pick ts (ms.take i)) = true) ⟨_, _, _, upTo n, _, rfl, Ke.new nl, by rw [← rgV_up]; exact upd_same, UF.start hn0, rfl⟩ (fun i σ G _ hG => ?_) (fun i x σ G hx hG => ?_) (fun σ G hG => ?_)
    · obtain ⟨_, _, _, _, _, _, kG, _⟩ := hG
      exact sqT_of (kG.tup hu)
    · obtain ⟨y3, y4, y5, ls, d, rfl, kG, gl, U, hF⟩ := hG
      obtain ⟨m, hm0, rfl⟩ := int_at hx
      obtain ⟨m0, m1⟩ := hm m (List.mem_of_getElem? hm0)
      obtain ⟨e, he, hq⟩ := hT.at_ m0 m1
      have ok := hok _ (List.mem_of_getElem? (getD_at m0 m1))
      have ok1 := ok.1
      have ok2 := ok.2.1
      have ok3 := ok.2.2
      have ep : pick ts (ms.take (i + 1)) = pick ts (ms.take i) ++ [ts.getD m.toNat (0, 0)] := by rw [take_next hm0, pick_append]; rfl
      have er : pick ts ms = (pick ts (ms.take i) ++ [ts.getD m.toNat (0, 0)]) ++ pick ts (ms.drop (i + 1)) := by rw [← ep, ← pick_append, List.take_append_drop]
      have hmo := ringlessF_more hF (ts.getD m.toNat (0, 0))
      obtain ⟨g, hg⟩ : ∃ g, g = ts.getD m.toNat (0, 0) := ⟨_, rfl⟩
      rw [← hg] at ok1 ok2 ok3 hq hmo ep er
      refine ⟨_, rfl, t, _, 1, _, rfl, rfl, sqT_of (kG.tup ht), atI_nat (j := 1) rfl, _, rfl, w, _, m, _, rfl, rfl, sqT_of (kG.tup hw), he, ?_⟩
      refine ⟨e, _, rfl, sqT_of (kG.tup hq), rfl, _, _, rfl, _, [], rfl, rfl, ?_⟩
      refine ⟨_, rfl, _, rfl, _, rfl, l, ls, n, _, d, g.1, g.2, rfl, gl, U, ok1, Int.lt_trans ok2 ok3, Int.le_trans ok1 (Int.le_of_lt ok2), ok3, fun ls' d' U' => ?_⟩
      refine ⟨_, rfl, iteB (fun hb => ?_) (fun hb => ?_)⟩
      · have hz : ringlessF (fun x => x) (pick ts ms) = false := by
          rw [er]
          refine ringlessF_bad _ _ _ ?_
          rw [hmo]
          revert hb
          cases decide (foldR (fun x => x) (pick ts (ms.take i)) g.1 = foldR (fun x => x) (pick ts (ms.take i)) g.2)
          · intro hb; cases hb
          · intro _; rfl
        have q1 := q _ (kG.over (o := .lst (ls'.map V.int)) nl)
        rw [hz] at q1
        exact q1
      · have hz : ringlessF (fun x => x) (pick ts (ms.take (i + 1))) = true := by
          rw [ep, hmo]
          revert hb
          cases decide (foldR (fun x => x) (pick ts (ms.take i)) g.1 = foldR (fun x => x) (pick ts (ms.take i)) g.2)
          · intro _; rfl
          · intro hb; cases hb
        exact ⟨_, _, _, ls', d', rfl, kG.over nl, upd_same, by rw [ep, foldR_snoc]; exact U', hz⟩
    · obtain ⟨_, _, _, _, _, rfl, kG, _, _, hF⟩ := hG
      have q1 := q G kG
      rw [List.length_map, List.take_length] at hF
      rw [hF] at q1
      exact q1
theorem ok_ties_by_forest {P : Program} {w : World} {K : PySem.W.Frag} {mg : Str → Option Value} {base : Heap} {tb : List Addr} {lt : List (Addr × Str)} {f : Addr} {fd : FuncData} (T : Blt mg) (D_ties_by_forest : DefAt K mg "ties_by_forest" s_ties_by_forest ["laying"] f fd) (LO : LtOk lt) :
    FnOk P w K mg base CX0 1 f fd ["laying"] (sp_ties_by_forest K tb) := by
  refine D_ties_by_forest.ok sc_ties_by_forest (fun vs H Q E h => by
    obtain ⟨u, ws, rfl, hu, hO, hlen, q⟩ := h
    all_goals rfl) fun A outer s H vs Q E hr h => ?_
  obtain ⟨u, ws, rfl, hu, hO, hlen, q⟩ := h
  refine ⟨_, pss_cons (ps_set (i := 1) sc_ties_by_forest.nd rfl (.inl rfl) (pe_dnewK))
     (pss_cons (ps_for PassesOwn.never rfl (pi_enumT (K := K) (by rfl) T.b_enumerate (pa_cons (pv 0) pa_nil)) (tgtK (K := K) (n := 2) (pgs_cons (pg_name (i := 2) sc_ties_by_forest.nd rfl (.inl rfl)) (pgs_cons (pg_name (i := 3) sc_ties_by_forest.nd rfl (.inl rfl)) pgs_nil)))
     (pss_one (ps_if (pt_cmpR op_notN (pv 3) (pe_non) (nomark _))
     (pss_one (ps_expr (pe_bm PySem.F.plainAttrs_list PySem.F.slot_list_append PySem.F.type_list_append mt_append (pe_dsetd (pv 1) (pv 3) (pe_lst pa_nil) ⟨rfl, rfl, rfl, rfl⟩) (pa_cons (pv 2) pa_nil))))
     (pss_nil))))
     (pss_one (ps_ret (pv 1)))), ?_⟩
  have LB := line_big
  refine fun d nd => ?_
  refine ⟨_, rfl, u, ws, rfl, sqT_of (tup_new nd hu), ?_⟩
  refine for_it (walk_enumT (K := K) (a := u) (xs := ws)) (fun i σ G => ∃ (y2 y3 : Option V) (fl : List (Int × Addr)), σ = [some (.ref u), some (.ref d), y2, y3] ∧ Ke H G ∧ G d = some (.dK (kvF fl)) ∧ Byf G (ws.take i) fl ∧ fl.length ≤ i ∧ ∀ p ∈ fl, H p.2 = none) ⟨_, _, [], rfl, Ke.new nd, upd_same, ⟨List.nodup_nil, List.nodup_nil, (fun _ z => nomatch z), fun f => ⟨(fun z => nomatch z), (fun z => nomatch z)⟩⟩, Nat.le_refl _, fun _ z => nomatch z⟩ (fun i σ G _ hG => ?_) (fun i x σ G G1 hi hG hy => ?_) (fun σ G hG => ?_)
  · obtain ⟨_, _, _, _, kG, _⟩ := hG
    exact sqT_of (kG.tup hu)
  · obtain ⟨y2, y3, fl, rfl, kG, gd, hB, hfl, hfr⟩ := hG
    obtain ⟨T1, z1, z2, rfl, nT, rfl, e1, e2⟩ := hy
    have e1 : some (V.int (i : Int)) = some z1 := e1
    have e2 : ws[i]? = some z2 := e2
    cases e1
    have en := take_next e2
    have hti : (ws.take i).length = i := by rw [List.length_take]; omega
    have kT : Ke G (upd G T1 (.tup [.int (i : Int), z2])) := Ke.new nT
    have hT1 : upd G T1 (.tup [.int (i : Int), z2]) T1 = some (.tup [.int (i : Int), z2]) := upd_same
    obtain ⟨G2, eG2⟩ : ∃ G2, G2 = upd G T1 (.tup [.int (i : Int), z2]) := ⟨_, rfl⟩
    rw [← eG2] at kT hT1 ⊢
    have gd2 : G2 d = some (.dK (kvF fl)) := kT.at_ _ _ gd (fun _ z => nomatch z) fun z => z
    have hB2 := hB.ke kT
    have k2 : Ke H G2 := kG.trans kT
    refine ⟨T1, _, rfl, sqT_of hT1, rfl, _, _, rfl, _, [], rfl, rfl, ?_⟩
    refine ⟨_, rfl, rfl, _, rfl, iteB (fun hb => ?_) (fun hb => ?_)⟩
    · obtain ⟨f1, rfl⟩ : ∃ f1, z2 = .int f1 := by
        rcases hO z2 (List.mem_of_getElem? e2) with z | z
        · rw [z] at hb
          cases hb
        · exact z
      refine ⟨_, rfl, d, rfl, .inl ⟨_, .inl gd2⟩, _, rfl, by show 0 ≤ sizeLine; decide, fun z nz => ?_⟩
      have gd3 : upd G2 z (.lst []) d = some (.dK (kvF fl)) := by rw [upd_ne (ne_of_none gd2 nz)]; exact gd2
      have hB3 : Byf (upd G2 z (.lst [])) (ws.take i) fl := hB2.ke (Ke.new nz)
      have k3 : Ke H (upd G2 z (.lst [])) := k2.trans (Ke.new nz)
      have nzH : H z = none := k2.dom _ nz
      have nzf : z ∉ fl.map Prod.snd := fun w => by
        obtain ⟨p, hp, ep⟩ := List.mem_map.mp w
        have := hB2.each p hp
        rw [ep, nz] at this
        cases this
      have ndf : d ∉ fl.map Prod.snd := fun w => by
        obtain ⟨p, hp, ep⟩ := List.mem_map.mp w
        have := hB2.each p hp
        rw [ep, gd2] at this
        cases this
      have ndz : d ≠ z := ne_of_none gd2 nz
      refine ⟨kvF fl, .inl f1, gd3, rfl, by rw [kvF_length]; omega, fun v hv => ?_, fun hv => ?_⟩
      · have hmf : f1 ∈ fl.map Prod.fst := by
          by_cases c : f1 ∈ fl.map Prod.fst
          · exact c
          · rw [val_out c] at hv
            cases hv
        obtain ⟨⟨f2, q2⟩, hp, rfl⟩ := List.mem_map.mp hmf
        rw [val_in hB3.nd hp] at hv
        cases hv
        have gq := hB3.each _ hp
        have nqd : d ≠ q2 := fun w => ndf (w ▸ List.mem_map.mpr ⟨_, hp, rfl⟩)
        refine ⟨.inl ⟨rfl, _, sqL_of gq⟩, _, rfl, q2, _, _, rfl, rfl, gq, ?_, ?_⟩
        · rw [List.length_map]
          have := nums_length f2 0 (ws.take i)
          dsimp only at this ⊢
          omega
        · have hm := hB3.more hp
          rw [hti] at hm
          refine ⟨_, _, fl, rfl, k3.over (hfr _ hp), ?_, ?_, by omega, hfr⟩
          · rw [upd_ne nqd]
            exact gd3
          · rw [en]
            exact hm
      · have hmf : f1 ∉ fl.map Prod.fst := fun c => by
          obtain ⟨⟨f2, q2⟩, hp, rfl⟩ := List.mem_map.mp c
          rw [val_in hB3.nd hp] at hv
          cases hv
        rw [put_out hmf]
        have gz4 : upd (upd G2 z (.lst [])) d (.dK (kvF (fl ++ [(f1, z)]))) z = some (.lst []) := by rw [upd_ne ndz.symm]; exact upd_same
        refine ⟨.inl ⟨rfl, _, sqL_of gz4⟩, _, rfl, z, _, _, rfl, rfl, gz4, by show 0 < sizeLine; decide, ?_⟩
        have hm := (hB3.off (o := .dK (kvF (fl ++ [(f1, z)]))) ndf).first hmf nzf
        rw [hti] at hm
        refine ⟨_, _, fl ++ [(f1, z)], rfl, (k3.over nd).over nzH, ?_, ?_, by rw [List.length_append]; exact Nat.succ_le_succ hfl, fun p hp => ?_⟩
        · rw [upd_ne ndz]
          exact upd_same
        · rw [en]
          exact hm
        · rcases List.mem_append.mp hp with hp | hp
          · exact hfr p hp
          · rw [List.mem_singleton.mp hp]
            exact nzH
    · have hz : z2 = .non := by
        rcases hO z2 (List.mem_of_getElem? e2) with z | ⟨z, w⟩
        · exact z
        · rw [w] at hb
          cases hb
      rw [hz] at en
      exact ⟨_, _, fl, rfl, k2, gd2, by rw [en]; exact hB2.skip, by omega, hfr⟩
  · obtain ⟨_, _, fl, rfl, kG, gd, hB, _, _⟩ := hG
    rw [List.take_length] at hB
    exact ⟨_, rfl, q G d fl kG nd gd hB⟩
theorem ok_right_laying {P : Program} {w : World} {K : PySem.W.Frag} {mg : Str → Option Value} {base : Heap} {tb : List Addr} {lt : List (Addr × Str)} {f : Addr} {fd : FuncData} {f_is_number : Addr} {fd_is_number : FuncData} {f_ringless : Addr} {fd_ringless : FuncData} {f_ties_by_forest : Addr} {fd_ties_by_forest : FuncData} (T : Blt mg) (D_right_laying : DefAt K mg "right_laying" s_right_laying ["web", "k", "thing"] f fd) (LO : LtOk lt) (D_is_number : DefAt K mg "is_number" s_is_number ["thing", "least", "most"] f_is_number fd_is_number) (G_is_number : FnOk P w K mg base CX0 1 f_is_number fd_is_number ["thing", "least", "most"] (sp_is_number K tb)) (D_ringless : DefAt K mg "ringless" s_ringless ["web", "ties"] f_ringless fd_ringless) (G_ringless : FnOk P w K mg base CX0 3 f_ringless fd_ringless ["web", "ties"] (sp_ringless K tb)) (D_ties_by_forest : DefAt K mg "ties_by_forest" s_ties_by_forest ["laying"] f_ties_by_forest fd_ties_by_forest) (G_ties_by_forest : FnOk P w K mg base CX0 1 f_ties_by_forest fd_ties_by_forest ["laying"] (sp_ties_by_forest K tb)) {c Pt : Addr} (TB : LamX.TabB base mg c Pt) (hcd : fd.code = .ref c) (hPt : Pt ∈ tb) :
    FnOk P w K mg base CX0 7 f fd ["web", "k", "thing"] (sp_right_laying K tb) := by
  refine D_right_laying.ok sc_right_laying (fun vs H Q E h => by
    obtain ⟨v, t, n, ts, k, o, rfl, W, ht, hok, hn0, hn1, hlen, hT0, q⟩ := h
    all_goals rfl) fun A outer s H vs Q E hr h => ?_
  obtain ⟨v, t, n, ts, k, o, rfl, W, ht, hok, hn0, hn1, hlen, hT0, q⟩ := h
  refine ⟨_, pss_cons (ps_if (PW.pt (pw_or (pt_not (pt_val (pe_callB (isiK (K := K)) (by rfl) T.b_isinstance (by decide +kernel) (pa_cons (pv 2) (pa_cons (pe_bltn (v := .ty "tuple") (u := .type "tuple") (by rfl) T.b_tuple (by decide +kernel) rfl) pa_nil))))) (pw_or1 (pt_cmpR op_ne (pe_callB (lenK (K := K)) (by rfl) T.b_len PySem.boot_len (pa_cons (pv 2) pa_nil)) (pe_callB (lenK (K := K)) (by rfl) T.b_len PySem.boot_len (pa_cons (pe_ix (ix_tupK (K := K)) (pv 0) (pe_int) (fun _ _ => rfl)) pa_nil)) (nomark _)))))
     (pss_one (ps_ret (pe_bl)))
     (pss_nil))
     (pss_cons (ps_if (pt_not (pt_val (pe_all (k := 1) (vs := [1]) (hr.mono (by decide)) (by rfl) T.b_all (by decide +kernel) TB hcd (gxs_of (XN := nm_right_laying) (xsc := defScope s_right_laying) (N := ["k", "entry"]) (src := [some 1, none]) (by decide +kernel)) (pi_tup (pv 2)) ⟨fun _ _ _ _ _ _ => pg_name (i := 1) gnd_right_laying_0 rfl (.inl rfl), fun _ _ _ _ _ _ hz => pts_nil, fun _ _ _ _ _ _ hz => pe_or (pe_cmpR op_isN (pv 1) (pe_non) (nomark _)) (pe_one (pe_call G_is_number (hz.mono (by decide)) (by rfl) D_is_number.g D_is_number.F.kp D_is_number.b .nil pass0 (pa_cons (pv 1) (pa_cons (pe_int) (pa_cons (pe_op op_sub (pv 0) (pe_int)) pa_nil)))))⟩)))
     (pss_one (ps_ret (pe_bl)))
     (pss_nil))
     (pss_cons (ps_set (i := 3) sc_right_laying.nd rfl (.inl rfl) (pe_call G_ties_by_forest (hr.mono (by decide)) (by rfl) D_ties_by_forest.g D_ties_by_forest.F.kp D_ties_by_forest.b .nil pass0 (pa_cons (pv 2) pa_nil)))
     (pss_one (ps_ret (pe_lock (pe_all (k := 3) (vs := [1]) (hr.mono (by decide)) (by rfl) T.b_all (by decide +kernel) TB hcd (gxs_of (XN := nm_right_laying) (xsc := defScope s_right_laying) (N := ["web", "numbers"]) (src := [some 0, none]) (by decide +kernel)) (pi_values (pv 3)) ⟨fun _ _ _ _ _ _ => pg_name (i := 1) gnd_right_laying_1 rfl (.inl rfl), fun _ _ _ _ _ _ hz => pts_nil, fun _ _ _ _ _ _ hz => pe_call G_ringless (hz.mono (by decide)) (by rfl) D_ringless.g D_ringless.F.kp D_ringless.b .nil pass0 (pa_cons (pv 0) (pa_cons (pv 1) pa_nil))⟩)))))), ?_⟩
  obtain ⟨tw, u, rs, rfl, htw, hu, hT⟩ := id W
  have hrl := hT.length
  cases ht with
  | @no _ nm h hn =>
    refine ⟨_, rfl, t, _, _, _, _, rfl, .ty _, h.x, h.isi (.inr (.inr (.inl rfl))), _, rfl, ?_⟩
    have e : isiB nm "tuple" = false := by cases h <;> first | rfl | exact absurd rfl hn
    rw [e]
    exact iteT (iteT (q H .refl))
  | @yes a ws h hx =>
    refine ⟨_, rfl, _, _, _, _, true, rfl, .ty _, (TyN.tup h).x, (TyN.tup h).isi (.inr (.inr (.inl rfl))), true, rfl, iteF ?_⟩
    refine ⟨_, rfl, a, _, rfl, .inr (sqT_of h), _, rfl, tw, _, 1, _, rfl, rfl, sqT_of htw, atI_nat (j := 1) rfl, u, _, rfl, .inr (sqT_of hu), rfl, _, rfl, ?_⟩
    refine iteB (fun hb => ?_) (fun hb => ?_)
    · have hne : ws.length ≠ ts.length := fun z => by
        have hb : (!decide (V.int (ws.length : Int) = V.int (rs.length : Int))) = true := hb
        rw [hrl, z, decide_eq_true rfl] at hb
        cases hb
      have q0 := q H .refl
      rw [layO_len hne] at q0
      exact q0
    have hl : ws.length = ts.length := by
      have hb : (!decide (V.int (ws.length : Int) = V.int (rs.length : Int))) = false := hb
      rw [decide_int] at hb
      by_cases z : (ws.length : Int) = (rs.length : Int)
      · omega
      · rw [decide_eq_false z] at hb
        cases hb
    refine ⟨_, rfl, a, rfl, ⟨_, sqT_of h⟩, hT0 _ hPt, fun H2 htb => ?_⟩
    have k2 := Ke.tabd (hT0 _ hPt) htb
    refine gx_all (walk_tup (K := K) (a := a) (xs := ws)) (fun i G => G = H2 ∧ ∀ x ∈ ws.take i, okE k x = true) ⟨rfl, fun _ z => nomatch z⟩ (fun i G _ hG => by rw [hG.1]; exact sqT_of (k2.tup h)) (fun i x G G' hi hG hy => ?_) (fun G hG => ?_)
    · obtain ⟨rfl, ho⟩ := hG
      obtain ⟨rfl, hxi⟩ := hy
      have hxm := List.mem_of_getElem? hxi
      obtain ⟨nm, hty⟩ := hx x hxm
      refine ⟨rfl, yes_ite ?_⟩
      refine ⟨_, rfl, rfl, _, rfl, iteB (fun hb => ?_) (fun hb => ?_)⟩
      · have hb : x = .non := of_decide_eq_true hb
        subst hb
        refine ⟨_, rfl, rfl, fun y hy => ?_⟩
        rw [take_next hxi] at hy
        rcases List.mem_append.mp hy with hy | hy
        · exact ho y hy
        · rw [List.mem_singleton.mp hy]
          rfl
      · have hb : ¬ x = .non := of_decide_eq_false hb
        have eo : okE k x = isNum x 0 (k - 1) := by
          cases x with
          | non => exact absurd rfl hb
          | _ => rfl
        have hty2 : TyN G' x nm := by
          cases hty with
          | non => exact .non
          | bl b => exact .bl b
          | int i => exact .int i
          | str z => exact .str z
          | lst h => exact .lst (k2.lst h)
          | tup h => exact .tup (k2.tup h)
          | dic h => exact .dic (k2.at_ _ _ h (fun _ z => nomatch z) fun z => z)
        refine ⟨_, rfl, _, rfl, _, _, rfl, rfl, x, 0, k - 1, nm, rfl, hty2, _, rfl, ?_⟩
        by_cases e : isNum x 0 (k - 1) = true
        · rw [e, if_neg (by decide)]
          refine ⟨rfl, fun y hy => ?_⟩
          rw [take_next hxi] at hy
          rcases List.mem_append.mp hy with hy | hy
          · exact ho y hy
          · rw [List.mem_singleton.mp hy, eo, e]
        · have e : isNum x 0 (k - 1) = false := by simpa using e
          rw [e, if_pos rfl]
          have q0 := q _ k2
          rw [layO_bad hxm (eo.trans e)] at q0
          exact ⟨_, rfl, iteT q0⟩
    · obtain ⟨rfl, ho⟩ := hG
      rw [List.take_length] at ho
      refine ⟨_, rfl, iteF ?_⟩
      refine ⟨_, rfl, a, ws, rfl, k2.tup h, fun x hx => okE_O (ho x hx), by omega, fun H3 d fl k3 nd gd hB => ?_⟩
      have kH3 : Ke H H3 := k2.trans k3
      have ndH : H d = none := k2.dom _ nd
      have ndf : d ∉ fl.map Prod.snd := fun z => by
        obtain ⟨p, hp, e⟩ := List.mem_map.mp z
        have h1 := hB.each p hp
        rw [e, gd] at h1
        cases h1
      refine ⟨d, _, gd, trivial, fun od => ?_⟩
      have kB : Ke H (upd H3 d (.frz od (.dK (kvF fl)))) := kH3.over ndH
      have B1 := hB.off (o := .frz od (.dK (kvF fl))) ndf
      have gB : (upd H3 d (.frz od (.dK (kvF fl)))) d = some (.frz od (.dK (kvF fl))) := upd_same
      obtain ⟨B, eB⟩ : ∃ B, B = upd H3 d (.frz od (.dK (kvF fl))) := ⟨_, rfl⟩
      rw [← eB] at kB B1 gB ⊢
      refine ⟨_, rfl, d, od, _, rfl, gB, kB.tab _ (hT0 _ hPt), fun B2 htb2 => ?_⟩
      have kB2 : Ke B B2 := Ke.tabd (kB.tab _ (hT0 _ hPt)) htb2
      refine gx_all (walk_values (d := d) (o := od) (kvs := kvF fl)) (fun i G => Ke B G ∧ ∀ p ∈ fl.take i, ringlessF (fun x => x) (layerOf ts ws p.1) = true) ⟨kB2, fun _ z => nomatch z⟩ (fun i G _ hG => hG.1.at_ _ _ gB (fun _ z => nomatch z) fun z => z) (fun i x G G' hi hG hy => ?_) (fun G hG => ?_)
      · obtain ⟨kG, hF⟩ := hG
        obtain ⟨rfl, kk, hkx⟩ := hy
        unfold kvF at hkx
        rw [List.getElem?_map] at hkx
        cases ep : fl[i]? with
        | none => rw [ep] at hkx; cases hkx
        | some pr =>
          rw [ep] at hkx
          cases hkx
          have hpm := List.mem_of_getElem? ep
          have hfm : V.int pr.1 ∈ ws := (hB.mem pr.1).mpr (List.mem_map.mpr ⟨pr, hpm, rfl⟩)
          have epk : pick ts (numsFrom pr.1 0 ws) = layerOf ts ws pr.1 := pick_nums pr.1 [] ts ws hl.symm
          refine ⟨rfl, yes_ite ?_⟩
          refine ⟨_, rfl, _, rfl, .ref tw, n, ts, pr.2, numsFrom pr.1 0 ws, rfl, W.ke (kB.trans kG), .inl (kG.lst (B1.each pr hpm)), hok, hn0, hn1, fun m hm => ?_, fun G2 kG2 => ?_⟩
          · have := nums_bd pr.1 0 ws m hm
            omega
          · rw [epk]
            refine ⟨_, rfl, ?_⟩
            by_cases e : ringlessF (fun x => x) (layerOf ts ws pr.1) = true
            · rw [e, if_neg (by decide)]
              refine ⟨kG.trans kG2, fun y hy => ?_⟩
              rw [take_next ep] at hy
              rcases List.mem_append.mp hy with hy | hy
              · exact hF y hy
              · rw [List.mem_singleton.mp hy]
                exact e
            · have e : ringlessF (fun x => x) (layerOf ts ws pr.1) = false := by simpa using e
              rw [e, if_pos rfl]
              refine ⟨(kG.trans kG2).at_ _ _ gB (fun _ z => nomatch z) fun z => z, ?_⟩
              have q0 := q _ ((kB.trans (kG.trans kG2)).over (o := .dK (kvF fl)) ndH)
              rw [layO_ring hfm e] at q0
              exact q0
      · obtain ⟨kG, hF⟩ := hG
        rw [kvF_length, List.take_length] at hF
        refine ⟨kG.at_ _ _ gB (fun _ z => nomatch z) fun z => z, ?_⟩
        have q0 := q _ ((kB.trans kG).over (o := .dK (kvF fl)) ndH)
        rw [layO_good hl ho fun f hf => ?_] at q0
        · exact q0
        · obtain ⟨pr, hp, e⟩ := List.mem_map.mp ((hB.mem f).mp hf)
          rw [← e]
          exact hF pr hp
theorem ok_is_lot {P : Program} {w : World} {K : PySem.W.Frag} {mg : Str → Option Value} {base : Heap} {tb : List Addr} {lt : List (Addr × Str)} {f : Addr} {fd : FuncData} {f_is_rising : Addr} {fd_is_rising : FuncData} (T : Blt mg) (D_is_lot : DefAt K mg "is_lot" s_is_lot ["web", "thing"] f fd) (LO : LtOk lt) (D_is_rising : DefAt K mg "is_rising" s_is_rising ["thing", "most"] f_is_rising fd_is_rising) (G_is_rising : FnOk P w K mg base CX0 2 f_is_rising fd_is_rising ["thing", "most"] (sp_is_rising K tb)) :
    FnOk P w K mg base CX0 3 f fd ["web", "thing"] (sp_is_lot K tb) := by
  refine D_is_lot.ok sc_is_lot (fun vs H Q E h => by
    obtain ⟨v, t, n, ts, o, rfl, W, ht, q⟩ := h
    all_goals rfl) fun A outer s H vs Q E hr h => ?_
  obtain ⟨v, t, n, ts, o, rfl, W, ht, q⟩ := h
  refine ⟨_, pss_one (ps_ret (pe_and (pe_call G_is_rising (hr.mono (by decide)) (by rfl) D_is_rising.g D_is_rising.F.kp D_is_rising.b .nil pass0 (pa_cons (pv 1) (pa_cons (pe_op op_sub (pe_ix (ix_tupK (K := K)) (pv 0) (pe_int) (fun _ _ => rfl)) (pe_int)) pa_nil))) (pe_one (pe_cmpR op_gt (pe_callB (lenK (K := K)) (by rfl) T.b_len PySem.boot_len (pa_cons (pv 1) pa_nil)) (pe_int) (nomark _))))), ?_⟩
  obtain ⟨tw, u, rs, rfl, htw, hu, hT⟩ := W
  refine ⟨_, rfl, _, rfl, tw, _, 0, _, rfl, rfl, sqT_of htw, atI_nat (j := 0) rfl, _, _, rfl, rfl, t, n - 1, o, rfl, ht, _, rfl, ?_⟩
  rw [lotO_ris] at q
  cases hb : risO (n - 1) o with
  | false =>
    rw [hb, Bool.false_and] at q
    exact iteF q
  | true =>
    rw [hb, Bool.true_and] at q
    cases ht with
    | no h hn => cases hb
    | @yes a xs h ht hx =>
      refine iteT ⟨_, rfl, a, _, rfl, .inr h, _, _, rfl, rfl, ?_⟩
      have e : decide ((0 : Int) < (xs.length : Int)) = !xs.isEmpty := by
        cases xs with
        | nil => rfl
        | cons x r => exact decide_eq_true (by rw [List.length_cons]; omega)
      show Q (.bl (decide ((0 : Int) < (xs.length : Int)))) H
      rw [e]
      exact q
theorem ok_is_tight_by {P : Program} {w : World} {K : PySem.W.Frag} {mg : Str → Option Value} {base : Heap} {tb : List Addr} {lt : List (Addr × Str)} {f : Addr} {fd : FuncData} (T : Blt mg) (D_is_tight_by : DefAt K mg "is_tight_by" s_is_tight_by ["web", "k", "laying", "lot", "numbers"] f fd) (LO : LtOk lt) :
    FnOk P w K mg base CX0 1 f fd ["web", "k", "laying", "lot", "numbers"] (sp_is_tight_by K tb) := by
  refine D_is_tight_by.ok sc_is_tight_by (fun vs H Q E h => by
    obtain ⟨v, n, ts, k, u, ws, a, ls, l, ms, rfl, W, hu, hlw, ha, hl, hms, hk0, hk1, hml, q⟩ := h
    all_goals rfl) fun A outer s H vs Q E hr h => ?_
  obtain ⟨v, n, ts, k, u, ws, a, ls, l, ms, rfl, W, hu, hlw, ha, hl, hms, hk0, hk1, hml, q⟩ := h
  refine ⟨_, pss_cons (ps_setLc (i := 6) (own := [("number", 5)]) rfl sc_is_tight_by.nd rfl rfl (sw_true rfl rfl rfl (by decide +kernel)) (pi_list (pv 4)) (blkOk_by (own := [("number", 5)]) (N := nm_is_tight_by) (sc := defScope s_is_tight_by) (by decide +kernel)) (fun _ _ _ _ _ => pg_name (i := 5) sc_is_tight_by.nd rfl (.inl rfl)) (fun _ _ _ _ _ => pts_one (pt_cmpR op_notN (pe_ix (ix_tupK (K := K)) (pv 2) (pv 5) (fun _ _ => rfl)) (pe_non) (nomark _))) (fun _ _ _ _ _ => pe_ix (ix_tupK (K := K)) (pe_ix (ix_tupK (K := K)) (pv 0) (pe_int) (fun _ _ => rfl)) (pv 5) (fun _ _ => rfl)))
     (pss_cons (ps_setLc (i := 8) (own := [("tie", 7)]) rfl sc_is_tight_by.nd rfl rfl (sw_true rfl rfl rfl (by decide +kernel)) (pi_list (pv 6)) (blkOk_by (own := [("tie", 7)]) (N := nm_is_tight_by) (sc := defScope s_is_tight_by) (by decide +kernel)) (fun _ _ _ _ _ => pg_name (i := 7) sc_is_tight_by.nd rfl (.inl rfl)) (fun _ _ _ _ _ => pts_one (PW.pt (pw_and (pt_cmpR (in_seqK (K := K)) (pe_ix (ix_tupK (K := K)) (pv 7) (pe_int) (fun _ _ => rfl)) (pv 3) (by rfl)) (pw_and1 (pt_cmpR (in_seqK (K := K)) (pe_ix (ix_tupK (K := K)) (pv 7) (pe_int) (fun _ _ => rfl)) (pv 3) (by rfl)))))) (fun _ _ _ _ _ => pv 7))
     (pss_one (ps_ret (pe_cmpR op_eq (pe_callB (lenK (K := K)) (by rfl) T.b_len PySem.boot_len (pa_cons (pv 8) pa_nil)) (pe_op op_mul (pv 1) (pe_op op_sub (pe_callB (lenK (K := K)) (by rfl) T.b_len PySem.boot_len (pa_cons (pv 3) pa_nil)) (pe_int))) (nomark _))))), ?_⟩
  have LB := line_big
  obtain ⟨t, w, rs, rfl, ht, hw, hT⟩ := W
  refine ⟨_, rfl, l, rfl, ⟨_, sqL_of hl⟩, fun D hD => ?_⟩
  refine lc_list (K := K) (a := l) (xs := ms.map V.int) (fun i G => ∃ qs, Ke H G ∧ G D = some (.lst qs) ∧ Ties G qs (pick ts (laidM ws (ms.take i)))) ⟨[], Ke.new hD, upd_same, .nil⟩ (fun i G _ hG => ?_) (fun i x G hx hG => ?_) (fun G hG => ?_)
  · obtain ⟨_, kG, _⟩ := hG
    exact sqL_of (kG.lst hl)
  · obtain ⟨qs, kG, gD, gT⟩ := hG
    obtain ⟨m, hm, rfl⟩ := int_at hx
    obtain ⟨m0, m1⟩ := hms m (List.mem_of_getElem? hm)
    obtain ⟨e, he, hq⟩ := hT.at_ m0 m1
    have hs := laidM_take (ws := ws) hm
    refine ⟨rfl, _, rfl, _, rfl, u, _, m, _, rfl, rfl, sqT_of (kG.tup hu), atI_getD m0 (by omega), rfl, _, rfl, iteB (fun hb => ?_) (fun hb => ?_)⟩
    · have hb : (!decide (ws.getD m.toNat .non = V.non)) = true := hb
      rw [if_pos hb] at hs
      refine ⟨_, rfl, t, _, 1, _, rfl, rfl, sqT_of (kG.tup ht), atI_nat (j := 1) rfl, _, rfl, w, _, m, _, rfl, rfl, sqT_of (kG.tup hw), he, qs, gD, ?_, qs ++ [.ref e], kG.over hD, upd_same, ?_⟩
      · rw [gT.length, pick_length]
        have h1 : (laidM ws (ms.take i)).length ≤ (ms.take i).length := List.length_filter_le _ _
        have h2 : (ms.take i).length ≤ ms.length := List.length_take_le' i ms
        omega
      · rw [hs]
        exact (gT.pick1 (kG.tup hq)).put gD
    · have hb : (!decide (ws.getD m.toNat .non = V.non)) = false := hb
      rw [if_neg (by rw [hb]; decide), List.append_nil] at hs
      exact ⟨qs, kG, gD, by rw [hs]; exact gT⟩
  obtain ⟨qs, kG, gD, gT⟩ := hG
  rw [List.length_map, List.take_length] at gT
  have hpl : (pick ts (laidM ws ms)).length ≤ 1000000 := by
    rw [pick_length]
    exact Nat.le_trans (List.length_filter_le _ _) hml
  generalize pick ts (laidM ws ms) = us at *
  refine ⟨_, rfl, D, rfl, ⟨_, sqL_of gD⟩, fun E hE => ?_⟩
  refine lc_list (K := K) (a := D) (xs := qs) (fun i G2 => ∃ acc : List V, G2 = upd G E (.lst acc) ∧ acc.length = inside ls (us.take i)) ⟨[], rfl, by simp [inside]⟩ (fun i G2 _ hG => ?_) (fun i r G2 hr hG => ?_) (fun G2 hG => ?_)
  · obtain ⟨acc, rfl, _⟩ := hG
    exact sqL_of (lst_new hE gD)
  · obtain ⟨acc, rfl, hacc⟩ := hG
    obtain ⟨⟨x, y⟩, r', hti, rfl, hr'⟩ := gT.get hr
    have hs := inside_take (ls := ls) hti
    dsimp only at hs
    have hl' := sqT_of (K := K) (tup_new (o := .lst acc) hE (kG.tup ha))
    have hr2 := sqT_of (K := K) (tup_new (o := .lst acc) hE hr')
    refine ⟨rfl, _, rfl, r', _, 0, _, rfl, rfl, hr2, atI_nat (j := 0) rfl, _, rfl, a, _, rfl, .inr hl', rfl, flat_ints ls, _, rfl, ?_⟩
    rw [inV_int]
    refine iteB (fun (e1 : decide (x ∈ ls) = true) => ?_) (fun (e1 : decide (x ∈ ls) = false) => ?_)
    · refine ⟨_, rfl, r', _, 1, _, rfl, rfl, hr2, atI_nat (j := 1) rfl, _, rfl, a, _, rfl, .inr hl', rfl, flat_ints ls, _, rfl, ?_⟩
      rw [inV_int]
      refine iteB (fun (e2 : decide (y ∈ ls) = true) => ?_) (fun (e2 : decide (y ∈ ls) = false) => ?_)
      · refine ⟨_, rfl, acc, upd_same, ?_, acc ++ [.ref r'], upd_upd, ?_⟩
        · rw [hacc]
          have h1 := inside_le ls (us.take i)
          have h3 : (us.take i).length ≤ us.length := List.length_take_le' i us
          omega
        · rw [List.length_append, hacc, hs, e1, e2]
          rfl
      · refine ⟨acc, rfl, ?_⟩
        rw [hs, e1, e2]
        exact hacc
    · refine ⟨acc, rfl, ?_⟩
      rw [hs, e1]
      exact hacc
  · obtain ⟨acc, rfl, hacc⟩ := hG
    rw [gT.length, List.take_length] at hacc
    refine ⟨_, rfl, E, _, rfl, .inl (sqL_of upd_same), _, rfl, _, rfl, a, _, rfl, .inr (sqT_of (tup_new hE (kG.tup ha))), _, _, rfl, rfl, _, _, rfl, rfl, .inl ⟨by omega, by omega⟩, rfl, ?_⟩
    rw [decide_int, hacc, List.length_map]
    exact q _ (kG.trans (Ke.new hE))
theorem ok_cheapness {P : Program} {w : World} {K : PySem.W.Frag} {mg : Str → Option Value} {base : Heap} {tb : List Addr} {lt : List (Addr × Str)} {f : Addr} {fd : FuncData} (T : Blt mg) (D_cheapness : DefAt K mg "cheapness" s_cheapness ["prices", "tie"] f fd) (LO : LtOk lt) :
    FnOk P w K mg base CX0 1 f fd ["prices", "tie"] (sp_cheapness K tb) := by
  refine D_cheapness.ok sc_cheapness (fun vs H Q E h => by
    obtain ⟨v, ps, m, j, rfl, hP, h0, h1, q⟩ := h
    all_goals rfl) fun A outer s H vs Q E hr h => ?_
  obtain ⟨v, ps, m, j, rfl, hP, h0, h1, q⟩ := h
  refine ⟨_, pss_one (ps_ret (pe_tup (pa_cons (pe_ix (ix_tupK (K := K)) (pv 0) (pv 1) (fun _ _ => rfl)) (pa_cons (pv 1) pa_nil)))), ?_⟩
  obtain ⟨⟨a, rfl, ha⟩, hl⟩ := hP
  exact ⟨_, rfl, _, rfl, a, _, j, _, rfl, rfl, sqT_of ha, hat_at h0 (by omega), _, rfl, by show 2 ≤ sizeLine; decide, fun p np => q _ p (Ke.new np) np upd_same⟩
theorem ok_is_cheaper {P : Program} {w : World} {K : PySem.W.Frag} {mg : Str → Option Value} {base : Heap} {tb : List Addr} {lt : List (Addr × Str)} {f : Addr} {fd : FuncData} {f_cheapness : Addr} {fd_cheapness : FuncData} (T : Blt mg) (D_is_cheaper : DefAt K mg "is_cheaper" s_is_cheaper ["prices", "one", "other"] f fd) (LO : LtOk lt) (D_cheapness : DefAt K mg "cheapness" s_cheapness ["prices", "tie"] f_cheapness fd_cheapness) (G_cheapness : FnOk P w K mg base CX0 1 f_cheapness fd_cheapness ["prices", "tie"] (sp_cheapness K tb)) :
    FnOk P w K mg base CX0 2 f fd ["prices", "one", "other"] (sp_is_cheaper K tb) := by
  refine D_is_cheaper.ok sc_is_cheaper (fun vs H Q E h => by
    obtain ⟨v, ps, m, i, j, rfl, hP, i0, i1, j0, j1, q⟩ := h
    all_goals rfl) fun A outer s H vs Q E hr h => ?_
  obtain ⟨v, ps, m, i, j, rfl, hP, i0, i1, j0, j1, q⟩ := h
  refine ⟨_, pss_one (ps_ret (pe_cmpR (op_ltP (K := K) hr.units0) (pe_call G_cheapness (hr.mono (by decide)) (by rfl) D_cheapness.g D_cheapness.F.kp D_cheapness.b .nil pass0 (pa_cons (pv 0) (pa_cons (pv 1) pa_nil))) (pe_call G_cheapness (hr.mono (by decide)) (by rfl) D_cheapness.g D_cheapness.F.kp D_cheapness.b .nil pass0 (pa_cons (pv 0) (pa_cons (pv 2) pa_nil))) (nomark _))), ?_⟩
  refine ⟨_, rfl, _, rfl, v, ps, m, i, rfl, hP, i0, i1, fun H1 p k1 np hp => ?_⟩
  refine ⟨_, rfl, _, rfl, v, ps, m, j, rfl, hP.ke k1, j0, j1, fun H2 p2 k2 np2 hp2 => ?_⟩
  refine ⟨p, p2, _, _, _, _, rfl, rfl, sqT_of (k2.tup hp), sqT_of hp2, ?_⟩
  have e : lexI (ps.getD i.toNat 0) i (ps.getD j.toNat 0) j = decide (chB ps i.toNat j.toNat) := decide_eq_decide.mpr (by unfold chB prI; omega)
  rw [e]
  exact q _ (k1.trans k2)
theorem ok_is_reason {P : Program} {w : World} {K : PySem.W.Frag} {mg : Str → Option Value} {base : Heap} {tb : List Addr} {lt : List (Addr × Str)} {f : Addr} {fd : FuncData} {f_is_lot : Addr} {fd_is_lot : FuncData} {f_is_tight_by : Addr} {fd_is_tight_by : FuncData} {f_is_cheaper : Addr} {fd_is_cheaper : FuncData} (T : Blt mg) (D_is_reason : DefAt K mg "is_reason" s_is_reason ["web", "k", "prices", "laying", "tie", "thing"] f fd) (LO : LtOk lt) (D_is_lot : DefAt K mg "is_lot" s_is_lot ["web", "thing"] f_is_lot fd_is_lot) (G_is_lot : FnOk P w K mg base CX0 3 f_is_lot fd_is_lot ["web", "thing"] (sp_is_lot K tb)) (D_is_tight_by : DefAt K mg "is_tight_by" s_is_tight_by ["web", "k", "laying", "lot", "numbers"] f_is_tight_by fd_is_tight_by) (G_is_tight_by : FnOk P w K mg base CX0 1 f_is_tight_by fd_is_tight_by ["web", "k", "laying", "lot", "numbers"] (sp_is_tight_by K tb)) (D_is_cheaper : DefAt K mg "is_cheaper" s_is_cheaper ["prices", "one", "other"] f_is_cheaper fd_is_cheaper) (G_is_cheaper : FnOk P w K mg base CX0 2 f_is_cheaper fd_is_cheaper ["prices", "one", "other"] (sp_is_cheaper K tb)) :
    FnOk P w K mg base CX0 4 f fd ["web", "k", "prices", "laying", "tie", "thing"] (sp_is_reason K tb) := by
  refine D_is_reason.ok sc_is_reason (fun vs H Q E h => by
    obtain ⟨v, n, ts, k, pr, ps, u, ws, i, t, rfl, W, hP, hok, hu, hL, hi, hd, hlen, hk0, hk1, q⟩ := h
    all_goals rfl) fun A outer s H vs Q E hr h => ?_
  obtain ⟨v, n, ts, k, pr, ps, u, ws, i, t, rfl, W, hP, hok, hu, hL, hi, hd, hlen, hk0, hk1, q⟩ := h
  refine ⟨_, pss_cons (ps_if (pt_cmpR op_notN (pe_ix (ix_tupK (K := K)) (pv 3) (pv 4) (fun _ _ => rfl)) (pe_non) (nomark _))
     (pss_one (ps_ret (pe_cmpR op_isN (pv 5) (pe_non) (nomark _))))
     (pss_nil))
     (pss_cons (ps_asg (pe_ix (ix_tupK (K := K)) (pe_ix (ix_tupK (K := K)) (pv 0) (pe_int) (fun _ _ => rfl)) (pv 4) (fun _ _ => rfl)) (tgtK (K := K) (n := 2) (pgs_cons (pg_name (i := 6) sc_is_reason.nd rfl (.inl rfl)) (pgs_cons (pg_name (i := 7) sc_is_reason.nd rfl (.inl rfl)) pgs_nil))))
     (pss_cons (ps_if (PW.pt (pw_or (pt_not (pt_val (pe_call G_is_lot (hr.mono (by decide)) (by rfl) D_is_lot.g D_is_lot.F.kp D_is_lot.b .nil pass0 (pa_cons (pv 0) (pa_cons (pv 5) pa_nil))))) (pw_or (pt_cmpR (notIn_seqK (K := K)) (pv 6) (pv 5) (by rfl)) (pw_or1 (pt_cmpR (notIn_seqK (K := K)) (pv 7) (pv 5) (by rfl))))))
     (pss_one (ps_ret (pe_bl)))
     (pss_nil))
     (pss_cons (ps_setLc (i := 9) (own := [("other", 8)]) rfl sc_is_reason.nd rfl rfl (sw_true rfl rfl rfl (by decide +kernel)) (pi_range1 (by rfl) T.b_range (pa_cons (pe_callB (lenK (K := K)) (by rfl) T.b_len PySem.boot_len (pa_cons (pv 3) pa_nil)) pa_nil)) (blkOk_by (own := [("other", 8)]) (N := nm_is_reason) (sc := defScope s_is_reason) (by decide +kernel)) (fun _ _ _ _ _ => pg_name (i := 8) sc_is_reason.nd rfl (.inl rfl)) (fun _ _ _ _ _ => pts_one (pt_val (pe_call G_is_cheaper (hr.mono (by decide)) (by rfl) D_is_cheaper.g D_is_cheaper.F.kp D_is_cheaper.b .nil pass0 (pa_cons (pv 2) (pa_cons (pv 8) (pa_cons (pv 4) pa_nil)))))) (fun _ _ _ _ _ => pv 8))
     (pss_one (ps_ret (pe_call G_is_tight_by (hr.mono (by decide)) (by rfl) D_is_tight_by.g D_is_tight_by.F.kp D_is_tight_by.b .nil pass0 (pa_cons (pv 0) (pa_cons (pv 1) (pa_cons (pv 3) (pa_cons (pv 5) (pa_cons (pv 9) pa_nil))))))))))), ?_⟩
  have LB := line_big
  obtain ⟨tw, wu, rs, rfl, htw, hwu, hT⟩ := id W
  have hwl := hL.len
  have ei : ((i : Int)).toNat = i := Int.toNat_natCast i
  refine ⟨_, rfl, _, rfl, u, _, (i : Int), _, rfl, rfl, sqT_of hu, atI_getD (by omega) (by omega), rfl, _, rfl, ?_⟩
  rw [ei]
  refine iteB (fun (hb : (!decide (ws.getD i .non = V.non)) = true) => ?_) (fun (hb : (!decide (ws.getD i .non = V.non)) = false) => ?_)
  · have hn : ¬ ws[i]? = some .non := fun z => by rw [decide_eq_true ((getD_non (by omega)).mpr z)] at hb; cases hb
    have q0 := q H .refl
    unfold reasB at q0
    rw [if_neg hn] at q0
    exact ⟨_, rfl, rfl, q0⟩
  have hn : ws[i]? = some .non := (getD_non (by omega)).mp (by simpa using hb)
  unfold reasB at q
  rw [if_pos hn] at q
  obtain ⟨e, he, hq⟩ := hT.at_ (m := (i : Int)) (by omega) (by omega)
  rw [ei] at hq
  have et : tk ts (i : Int) = ts.getD i (0, 0) := by unfold tk; rw [ei]
  rw [← et] at hq
  refine ⟨_, rfl, tw, _, 1, _, rfl, rfl, sqT_of htw, atI_nat (j := 1) rfl, _, rfl, wu, _, (i : Int), _, rfl, rfl, sqT_of hwu, he, ?_⟩
  refine ⟨e, _, rfl, sqT_of hq, rfl, _, _, rfl, _, [], rfl, rfl, ?_⟩
  refine ⟨_, rfl, _, rfl, _, t, n, ts, rdT H t, rfl, W, hd.tpl.k, ?_⟩
  cases hlo : lotO n (rdT H t) with
  | false =>
    have q0 := q H .refl
    unfold lotR at q0
    rw [hlo, Bool.false_and] at q0
    exact ⟨_, rfl, iteT q0⟩
  | true =>
    refine ⟨_, rfl, iteF ?_⟩
    rcases hd with ⟨nm, h, hn⟩ | ⟨a, xs, rfl, h, hl, hx⟩
    · rw [rdT_no h hn] at hlo
      cases hlo
    rw [rdT_tup h] at hlo q
    have ex := rising_ints (lotO_rising hlo).2
    have el : (intsOf xs).length = xs.length := by
      have := congrArg List.length ex
      rw [List.length_map] at this
      exact this.symm
    have eq0 : lotR ts n k ps ws i (some xs) = (decide ((tk ts (i : Int)).1 ∈ intsOf xs) && decide ((tk ts (i : Int)).2 ∈ intsOf xs) && decide ((inside (intsOf xs) (tsN ts (ldN ws (chL ps ts.length i))) : Int) = k * ((xs.length : Int) - 1))) := by
      unfold lotR
      rw [hlo]
      rfl
    rw [eq0] at q
    rw [ex] at h
    generalize intsOf xs = ls at *
    rw [← el] at q
    refine ⟨_, rfl, _, rfl, a, _, rfl, .inr (sqT_of h), rfl, flat_ints ls, _, rfl, ?_⟩
    rw [inV_int]
    by_cases c1 : (tk ts (i : Int)).1 ∈ ls
    rotate_left
    · have q0 := q H .refl
      rw [decide_eq_false c1, Bool.false_and, Bool.false_and] at q0
      rw [decide_eq_false c1]
      exact iteT q0
    rw [decide_eq_true c1]
    refine iteF ⟨_, rfl, _, rfl, a, _, rfl, .inr (sqT_of h), rfl, flat_ints ls, _, rfl, ?_⟩
    rw [inV_int]
    by_cases c2 : (tk ts (i : Int)).2 ∈ ls
    rotate_left
    · have q0 := q H .refl
      rw [decide_eq_true c1, decide_eq_false c2, Bool.true_and, Bool.false_and] at q0
      rw [decide_eq_false c2]
      exact iteT q0
    rw [decide_eq_true c2]
    refine iteF ?_
    rw [decide_eq_true c1, decide_eq_true c2, Bool.true_and, Bool.true_and] at q
    refine ⟨_, rfl, u, ws, rfl, .inr (sqT_of hu), _, rfl, by omega, by omega, fun D hD => ?_⟩
    refine lc_range (lo := 0) (n := ((ws.length : Nat) : Int).toNat) (fun j G => Ke H G ∧ G D = some (.lst ((chL ps j i).map fun (x : Nat) => V.int (x : Int)))) ⟨Ke.new hD, upd_same⟩ (fun j G hj hG => ?_) (fun G hG => ?_)
    · obtain ⟨kG, gD⟩ := hG
      rw [Int.toNat_natCast] at hj
      have ej : ((0 + (j : Int))).toNat = j := by omega
      refine ⟨rfl, _, rfl, _, rfl, _, rfl, pr, ps, ts.length, 0 + (j : Int), (i : Int), rfl, hP.ke kG, by omega, by omega, by omega, by omega, fun G2 k2 => ⟨_, rfl, ?_⟩⟩
      rw [ej, ei]
      have kk := kG.trans k2
      have gD2 := k2.lst gD
      have es : chL ps (j + 1) i = chL ps j i ++ if decide (chB ps j i) = true then [j] else [] := by
        unfold chL
        rw [List.range_succ, List.filter_append, List.filter_cons]
        congr 1
      have hlen2 : (chL ps j i).length ≤ j := by
        unfold chL
        refine Nat.le_trans (List.length_filter_le _ _) ?_
        rw [List.length_range]
        exact Nat.le_refl _
      refine iteB (fun hb => ?_) (fun hb => ?_)
      · refine ⟨_, rfl, _, gD2, by rw [List.length_map]; omega, kk.over hD, ?_⟩
        rw [upd_same, es, if_pos hb, List.map_append, Int.zero_add]
        rfl
      · rw [es, if_neg (by rw [hb]; decide), List.append_nil]
        exact ⟨kk, gD2⟩
    · obtain ⟨kG, gD⟩ := hG
      rw [Int.toNat_natCast, hwl] at gD
      have hlen2 : (chL ps ts.length i).length ≤ ts.length := by
        unfold chL
        refine Nat.le_trans (List.length_filter_le _ _) ?_
        rw [List.length_range]
        exact Nat.le_refl _
      refine ⟨_, rfl, _, rfl, _, rfl, _, rfl, _, rfl, .ref tw, n, ts, k, u, ws, a, ls, D, (chL ps ts.length i).map fun (x : Nat) => (x : Int), rfl, W.ke kG, kG.tup hu, hwl, kG.tup h, ?_, fun m hm => ?_, hk0, by omega, by rw [List.length_map]; omega, fun H9 k9 => ?_⟩
      · rw [gD, List.map_map]
        rfl
      · obtain ⟨x, hx, rfl⟩ := List.mem_map.mp hm
        have := List.mem_range.mp (List.mem_filter.mp hx).1
        omega
      · rw [pick_tsN]
        exact q _ (kG.trans k9)
theorem ok_right_cheapest {P : Program} {w : World} {K : PySem.W.Frag} {mg : Str → Option Value} {base : Heap} {tb : List Addr} {lt : List (Addr × Str)} {f : Addr} {fd : FuncData} {f_right_laying : Addr} {fd_right_laying : FuncData} {f_is_reason : Addr} {fd_is_reason : FuncData} (T : Blt mg) (D_right_cheapest : DefAt K mg "right_cheapest" s_right_cheapest ["web", "k", "prices", "thing"] f fd) (LO : LtOk lt) (D_right_laying : DefAt K mg "right_laying" s_right_laying ["web", "k", "thing"] f_right_laying fd_right_laying) (G_right_laying : FnOk P w K mg base CX0 7 f_right_laying fd_right_laying ["web", "k", "thing"] (sp_right_laying K tb)) (D_is_reason : DefAt K mg "is_reason" s_is_reason ["web", "k", "prices", "laying", "tie", "thing"] f_is_reason fd_is_reason) (G_is_reason : FnOk P w K mg base CX0 4 f_is_reason fd_is_reason ["web", "k", "prices", "laying", "tie", "thing"] (sp_is_reason K tb)) {c Pt : Addr} (TB : LamX.TabB base mg c Pt) (hcd : fd.code = .ref c) (hPt : Pt ∈ tb) :
    FnOk P w K mg base CX0 8 f fd ["web", "k", "prices", "thing"] (sp_right_cheapest K tb) := by
  refine D_right_cheapest.ok sc_right_cheapest (fun vs H Q E h => by
    obtain ⟨v, n, ts, k, pr, ps, t, rfl, W, hP, hok, hn0, hn1, hlen, hk0, hk1, hd, hT0, q⟩ := h
    all_goals rfl) fun A outer s H vs Q E hr h => ?_
  obtain ⟨v, n, ts, k, pr, ps, t, rfl, W, hP, hok, hn0, hn1, hlen, hk0, hk1, hd, hT0, q⟩ := h
  refine ⟨_, pss_cons (ps_if (PW.pt (pw_or (pt_not (pt_val (pe_callB (isiK (K := K)) (by rfl) T.b_isinstance (by decide +kernel) (pa_cons (pv 3) (pa_cons (pe_bltn (v := .ty "tuple") (u := .type "tuple") (by rfl) T.b_tuple (by decide +kernel) rfl) pa_nil))))) (pw_or1 (pt_cmpR op_ne (pe_callB (lenK (K := K)) (by rfl) T.b_len PySem.boot_len (pa_cons (pv 3) pa_nil)) (pe_int) (nomark _)))))
     (pss_one (ps_ret (pe_bl)))
     (pss_nil))
     (pss_cons (ps_asg (pv 3) (tgtK (K := K) (n := 2) (pgs_cons (pg_name (i := 4) sc_right_cheapest.nd rfl (.inr rfl)) (pgs_cons (pg_name (i := 5) sc_right_cheapest.nd rfl (.inl rfl)) pgs_nil))))
     (pss_cons (ps_if (pt_not (pt_val (pe_call G_right_laying (hr.mono (by decide)) (by rfl) D_right_laying.g D_right_laying.F.kp D_right_laying.b .nil pass0 (pa_cons (pv 0) (pa_cons (pv 1) (pa_cons (pv 4) pa_nil))))))
     (pss_one (ps_ret (pe_bl)))
     (pss_nil))
     (pss_cons (ps_if (PW.pt (pw_or (pt_not (pt_val (pe_callB (isiK (K := K)) (by rfl) T.b_isinstance (by decide +kernel) (pa_cons (pv 5) (pa_cons (pe_bltn (v := .ty "tuple") (u := .type "tuple") (by rfl) T.b_tuple (by decide +kernel) rfl) pa_nil))))) (pw_or1 (pt_cmpR op_ne (pe_callB (lenK (K := K)) (by rfl) T.b_len PySem.boot_len (pa_cons (pv 5) pa_nil)) (pe_callB (lenK (K := K)) (by rfl) T.b_len PySem.boot_len (pa_cons (pe_ix (ix_tupK (K := K)) (pv 0) (pe_int) (fun _ _ => rfl)) pa_nil)) (nomark _)))))
     (pss_one (ps_ret (pe_bl)))
     (pss_nil))
     (pss_one (ps_ret (pe_all (k := 4) (vs := [4, 5]) (hr.mono (by decide)) (by rfl) T.b_all (by decide +kernel) TB hcd (gxs_of (XN := nm_right_cheapest) (xsc := defScope s_right_cheapest) (N := ["web", "k", "prices", "laying", "tie", "reason"]) (src := [some 0, some 1, some 2, some 4, none, none]) (by decide +kernel)) (pi_enumT (K := K) (by rfl) T.b_enumerate (pa_cons (pv 5) pa_nil)) ⟨fun _ _ _ _ _ _ => tgtK (K := K) (n := 2) (pgs_cons (pg_name (i := 4) gnd_right_cheapest_0 rfl (.inl rfl)) (pgs_cons (pg_name (i := 5) gnd_right_cheapest_0 rfl (.inl rfl)) pgs_nil)), fun _ _ _ _ _ _ hz => pts_nil, fun _ _ _ _ _ _ hz => pe_call G_is_reason (hz.mono (by decide)) (by rfl) D_is_reason.g D_is_reason.F.kp D_is_reason.b .nil pass0 (pa_cons (pv 0) (pa_cons (pv 1) (pa_cons (pv 2) (pa_cons (pv 3) (pa_cons (pv 4) (pa_cons (pv 5) pa_nil))))))⟩)))))), ?_⟩
  have LB := line_big
  obtain ⟨tw, w0, rs, rfl, htw, hw0, hTt⟩ := id W
  have hrl := hTt.length
  rcases hd with ⟨nm, h, hn⟩ | ⟨x, xy, rfl, hx, hxl, hxd⟩
  · refine ⟨_, rfl, _, _, _, _, _, rfl, .ty _, h.x, isi_no h hn, _, rfl, ?_⟩
    have q0 := q H .refl
    unfold cheapB at q0
    rw [rdT_no h hn] at q0
    exact iteT (iteT q0)
  refine ⟨_, rfl, _, _, _, _, true, rfl, .ty _, (TyN.tup hx).x, isi_yes, true, rfl, iteF ?_⟩
  refine ⟨_, rfl, x, _, rfl, .inr (sqT_of hx), rfl, _, rfl, ?_⟩
  unfold cheapB at q
  rw [rdT_tup hx] at q
  by_cases c : xy.length = 2
  rotate_left
  · rw [decide_int, decide_eq_false (p := (xy.length : Int) = 2) (by omega)]
    refine iteT ?_
    have q0 := q H .refl
    match xy, c, q0 with
    | [], _, q0 => exact q0
    | [_], _, q0 => exact q0
    | [_, _], c, _ => exact absurd rfl c
    | _ :: _ :: _ :: _, _, q0 => exact q0
  obtain ⟨L, R, rfl⟩ : ∃ e r, xy = [e, r] := by
    match xy, c with
    | [e, r], _ => exact ⟨e, r, rfl⟩
  rw [decide_int, decide_eq_true (p := (([L, R] : List V).length : Int) = 2) rfl]
  refine iteF ?_
  have dL : DT (1 + 1) H L := hxd L List.mem_cons_self
  have dR : DT (1 + 1) H R := hxd R (List.mem_cons_of_mem _ List.mem_cons_self)
  dsimp only at q
  refine ⟨_, rfl, x, _, rfl, sqT_of hx, rfl, _, _, rfl, _, [], rfl, rfl, ?_⟩
  refine ⟨_, rfl, _, rfl, _, rfl, .ref tw, L, n, ts, k, rdT H L, rfl, W, dL.tpl, hok, hn0, hn1, hlen, hT0, fun H1 k1 => ⟨_, rfl, ?_⟩⟩
  cases hlay : layO ts k (rdT H L) with
  | false =>
    have q0 := q _ k1
    rw [hlay, Bool.false_and] at q0
    exact iteT q0
  | true =>
    refine iteF ?_
    rw [hlay, Bool.true_and] at q
    rcases dL with ⟨nm, h, hn⟩ | ⟨u, ws, rfl, hu, hul, hud⟩
    · rw [rdT_no h hn] at hlay
      cases hlay
    rw [rdT_tup hu] at hlay q
    have hL := layO_k hlay
    have hwl := hL.len
    rw [Option.getD_some] at q
    rcases id dR with ⟨nm, h, hn⟩ | ⟨rt, ys, rfl, hrt, hyl, hyd⟩
    · refine ⟨_, rfl, _, _, _, _, _, rfl, .ty _, (h.ke k1).x, isi_no (h.ke k1) hn, _, rfl, ?_⟩
      have q0 := q _ k1
      rw [rdT_no h hn] at q0
      exact iteT (iteT q0)
    rw [rdT_tup hrt] at q
    dsimp only at q
    have hrt1 := Ke.tup k1 hrt
    refine ⟨_, rfl, _, _, _, _, true, rfl, .ty _, (TyN.tup hrt1).x, isi_yes, true, rfl, iteF ?_⟩
    refine ⟨_, rfl, rt, _, rfl, .inr (sqT_of hrt1), _, rfl, tw, _, 1, _, rfl, rfl, sqT_of (k1.tup htw), atI_nat (j := 1) rfl, w0, _, rfl, .inr (sqT_of (k1.tup hw0)), rfl, _, rfl, ?_⟩
    rw [decide_int, hrl]
    by_cases cl : (ys.length : Int) = (ts.length : Int)
    rotate_left
    · rw [decide_eq_false cl]
      have q0 := q _ k1
      rw [reasA_len cl] at q0
      exact iteT q0
    rw [decide_eq_true cl]
    refine iteF ?_
    have t1 := hT0.kx k1
    refine ⟨_, rfl, rt, _, rfl, sqT_of hrt1, t1 _ hPt, fun H2 htb => ?_⟩
    have k2 : Ke H1 H2 := Ke.tabd (t1 _ hPt) htb
    have k12 := k1.trans k2
    refine gx_all (walk_enumT (K := K) (a := rt) (xs := ys)) (fun i G => Ke H2 G ∧ ∀ (j : Nat) r, j < i → ys[j]? = some r → reasB ts n k ps ws j H r = true) ⟨.refl, fun j r hj => absurd hj (Nat.not_lt_zero _)⟩ (fun i G _ hG => sqT_of (Ke.tup (k12.trans hG.1) hrt)) (fun i y G G' hi hG hy => ?_) (fun G hG => ?_)
    · obtain ⟨T1, z1, z2, rfl, nT, rfl, e1, e2⟩ := hy
      obtain ⟨kG9, hrs⟩ := hG
      have e1 : some (V.int (i : Int)) = some z1 := e1
      have e2 : ys[i]? = some z2 := e2
      cases e1
      have kT : Ke H2 (upd G T1 (.tup [.int (i : Int), z2])) := kG9.trans (Ke.new nT)
      have gT : (upd G T1 (.tup [.int (i : Int), z2])) T1 = some (.tup [.int (i : Int), z2]) := upd_same
      generalize upd G T1 _ = G5 at *
      have kA := k12.trans kT
      have dz : DT 1 H z2 := hyd z2 (List.mem_of_getElem? e2)
      refine ⟨T1, _, rfl, sqT_of gT, rfl, _, _, rfl, _, [], rfl, rfl, rfl, yes_ite ?_⟩
      refine ⟨_, rfl, _, rfl, _, rfl, _, rfl, _, rfl, _, rfl, .ref tw, n, ts, k, pr, ps, u, ws, i, z2, rfl, W.ke kA, hP.ke kA, hok, Ke.tup kA hu, hL, by omega, dz.ke kA, hlen, hk0, hk1, fun G6 k7 => ⟨_, rfl, ?_⟩⟩
      rw [dz.reas kA]
      by_cases e : reasB ts n k ps ws i H z2 = true
      · rw [e, if_neg (by decide)]
        refine ⟨kT.trans k7, fun j r hj h1 => ?_⟩
        by_cases cj : j = i
        · subst cj
          rw [e2] at h1
          cases h1
          exact e
        · exact hrs j r (by omega) h1
      · have e : reasB ts n k ps ws i H z2 = false := by simpa using e
        rw [e, if_pos rfl]
        have q0 := q _ (kA.trans k7)
        rw [reasA_no e2 e] at q0
        exact q0
    · obtain ⟨kG9, hrs⟩ := hG
      have q0 := q _ (k12.trans kG9)
      rw [reasA_yes cl fun i x h => hrs i x (List.getElem?_eq_some_iff.mp h).1 h] at q0
      exact q0
theorem posM : (0 : Int) < 2305843009213693951 := by decide
theorem modM (x : Int) : 0 ≤ x % 2305843009213693951 ∧ x % 2305843009213693951 < 2305843009213693951 := ⟨Int.emod_nonneg _ (by decide), Int.emod_lt_of_pos _ (by decide)⟩
theorem ok__law_mixed {P : Program} {w : World} {K : PySem.W.Frag} {mg : Str → Option Value} {base : Heap} {tb : List Addr} {lt : List (Addr × Str)} {f : Addr} {fd : FuncData} (T : Blt mg) (D__law_mixed : DefAt K mg "_law_mixed" s_law_mixed ["_law_cell", "_law_k"] f fd) (LO : LtOk lt) :
    FnOk P w K mg base CX0 1 f fd ["_law_cell", "_law_k"] (sp__law_mixed K tb) := by
  refine D__law_mixed.ok sc__law_mixed (fun vs H Q E h => by
    obtain ⟨c, k, rfl, hk0, hk1, q⟩ := h
    all_goals rfl) fun A outer s H vs Q E hr h => ?_
  obtain ⟨c, k, rfl, hk0, hk1, q⟩ := h
  refine ⟨_, pss_cons (ps_set (i := 2) sc__law_mixed.nd rfl (.inl rfl) (pe_op op_mod (pe_op op_add (pe_op op_add (pv 0) (pe_op op_mul (pe_op op_mul (pv 1) (pv 1)) (pe_int))) (pe_int)) (pe_int)))
     (pss_cons (ps_set (i := 2) sc__law_mixed.nd rfl (.inl rfl) (pe_op op_mod (pe_op op_mul (pv 2) (pv 2)) (pe_int)))
     (pss_cons (ps_set (i := 2) sc__law_mixed.nd rfl (.inl rfl) (pe_op op_mod (pe_op op_mul (pe_op op_add (pe_op op_add (pv 2) (pe_op op_mul (pv 1) (pe_int))) (pe_int)) (pe_int)) (pe_int)))
     (pss_one (ps_ret (pe_op op_fdiv (pe_op op_mod (pe_op op_mul (pv 2) (pv 2)) (pe_int)) (pe_int)))))), ?_⟩
  refine ⟨_, rfl, _, rfl, _, rfl, _, _, rfl, rfl, .inl ⟨by omega, by omega⟩, _, _, rfl, rfl, .inr ⟨by decide, by decide⟩, _, _, rfl, rfl, _, _, rfl, rfl, _, _, rfl, rfl, posM, ?_⟩
  obtain ⟨x0, x1⟩ := modM (c + k * k * 40503 + 12345)
  refine ⟨_, rfl, _, rfl, _, _, rfl, rfl, .inl ⟨by omega, by omega⟩, _, _, rfl, rfl, posM, ?_⟩
  obtain ⟨y0, y1⟩ := modM ((c + k * k * 40503 + 12345) % 2305843009213693951 * ((c + k * k * 40503 + 12345) % 2305843009213693951))
  generalize (c + k * k * 40503 + 12345) % 2305843009213693951 * ((c + k * k * 40503 + 12345) % 2305843009213693951) = y at *
  refine ⟨_, rfl, _, rfl, _, _, rfl, rfl, .inl ⟨by omega, by omega⟩, _, _, rfl, rfl, _, _, rfl, rfl, _, _, rfl, rfl, .inl ⟨by omega, by omega⟩, _, _, rfl, rfl, posM, ?_⟩
  obtain ⟨z0, z1⟩ := modM ((y % 2305843009213693951 + k * 7919 + 1) * 48271)
  refine ⟨_, rfl, _, rfl, _, _, rfl, rfl, .inl ⟨by omega, by omega⟩, _, _, rfl, rfl, posM, _, _, rfl, rfl, ⟨by decide, by decide⟩, ?_⟩
  exact q _ (Int.ediv_nonneg (Int.emod_nonneg _ (by decide)) (by decide))
theorem own_list (ns : List Int) : ∃ own : List Int, cutV (ns.map V.int) none (some 60) ++ (List.replicate (Int.toNat (if decide (V.int ((ns.map V.int).length : Int) = V.int 0) = true then 1 else 0)) [V.int 0]).flatten = own.map V.int ∧ 0 < own.length ∧ own.length ≤ 60 := by
  have e : cutV (ns.map V.int) none (some 60) = (ns.take 60).map V.int := by
    rw [show (some (60 : Int)) = some ((60 : Nat) : Int) from rfl, cut_to, List.map_take]
  rw [e]
  cases ns with
  | nil => exact ⟨[0], rfl, by decide, by decide⟩
  | cons x r =>
    have d : decide (V.int (((x :: r).map V.int).length : Int) = V.int 0) = false := decide_eq_false fun z => by
      have z := V.int.inj z
      rw [List.length_map, List.length_cons] at z
      omega
    rw [d]
    refine ⟨(x :: r).take 60, by simp, by simp, by rw [List.length_take]; omega⟩
theorem p1000 : (0 : Int) < 1000 := by decide
theorem ok__law_deck {P : Program} {w : World} {K : PySem.W.Frag} {mg : Str → Option Value} {base : Heap} {tb : List Addr} {lt : List (Addr × Str)} {f : Addr} {fd : FuncData} {f__law_mixed : Addr} {fd__law_mixed : FuncData} (T : Blt mg) (D__law_deck : DefAt K mg "_law_deck" s_law_deck ["_law_script", "_law_many"] f fd) (LO : LtOk lt) (D__law_mixed : DefAt K mg "_law_mixed" s_law_mixed ["_law_cell", "_law_k"] f__law_mixed fd__law_mixed) (G__law_mixed : FnOk P w K mg base CX0 1 f__law_mixed fd__law_mixed ["_law_cell", "_law_k"] (sp__law_mixed K tb)) :
    FnOk P w K mg base CX0 2 f fd ["_law_script", "_law_many"] (sp__law_deck K tb) := by
  refine D__law_deck.ok sc__law_deck (fun vs H Q E h => by
    obtain ⟨a, ns, n, rfl, hS, hlen, hn0, hn1, q⟩ := h
    all_goals rfl) fun A outer s H vs Q E hr h => ?_
  obtain ⟨a, ns, n, rfl, hS, hlen, hn0, hn1, q⟩ := h
  refine ⟨_, pss_cons (ps_set (i := 2) sc__law_deck.nd rfl (.inl rfl) (pe_op op_cat (pe_callTy (listK (K := K)) (by rfl) T.b_list (by decide +kernel) (pa_cons (pe_slice (sl_listK (K := K)) (pv 0) po_none (po_some (pe_int))) pa_nil)) (pe_op op_rep (pe_lst (pa_cons (pe_int) pa_nil)) (pe_callTy call_int1 (by rfl) T.b_int (by decide +kernel) (pa_cons (pe_cmpR op_eq (pe_callB (lenK (K := K)) (by rfl) T.b_len PySem.boot_len (pa_cons (pv 0) pa_nil)) (pe_int) (nomark _)) pa_nil)))))
     (pss_cons (ps_setLc (i := 4) (own := [("_law_cell", 3)]) rfl sc__law_deck.nd rfl rfl (sw_true rfl rfl rfl (by decide +kernel)) (pi_list (pv 2)) (blkOk_by (own := [("_law_cell", 3)]) (N := nm__law_deck) (sc := defScope s_law_deck) (by decide +kernel)) (fun _ _ _ _ _ => pg_name (i := 3) sc__law_deck.nd rfl (.inl rfl)) (fun _ _ _ _ _ => pts_nil) (fun _ _ _ _ _ => pe_op op_mul (pv 3) (pe_callTy call_int1 (by rfl) T.b_int (by decide +kernel) (pa_cons (pe_cmpR op_ge (pv 3) (pe_op op_pow (pe_int) (pe_int)) (nomark _)) pa_nil))))
     (pss_cons (ps_set (i := 5) sc__law_deck.nd rfl (.inl rfl) (pe_lst pa_nil))
     (pss_cons (ps_for PassesOwn.never rfl (pi_range1 (by rfl) T.b_range (pa_cons (pv 1) pa_nil)) (pg_name (i := 6) sc__law_deck.nd rfl (.inl rfl))
     (pss_cons (ps_set (i := 7) sc__law_deck.nd rfl (.inl rfl) (pe_op op_mod (pv 6) (pe_callB (lenK (K := K)) (by rfl) T.b_len PySem.boot_len (pa_cons (pv 2) pa_nil))))
     (pss_one (ps_if (pt_cmpR op_gt (pe_ix (ix_listK (K := K)) (pv 4) (pv 7) (fun _ _ => rfl)) (pe_int) (nomark _))
     (pss_cons (ps_expr (pe_bm PySem.F.plainAttrs_list PySem.F.slot_list_append PySem.F.type_list_append mt_append (pv 5) (pa_cons (pe_op op_mod (pe_ix (ix_listK (K := K)) (pv 4) (pv 7) (fun _ _ => rfl)) (pe_int)) pa_nil)))
     (pss_one (ps_asg (pe_op op_fdiv (pe_ix (ix_listK (K := K)) (pv 4) (pv 7) (fun _ _ => rfl)) (pe_int)) (pg_sub (pv 4) (pv 7) set_list))))
     (pss_one (ps_expr (pe_bm PySem.F.plainAttrs_list PySem.F.slot_list_append PySem.F.type_list_append mt_append (pv 5) (pa_cons (pe_op op_mod (pe_call G__law_mixed (hr.mono (by decide)) (by rfl) D__law_mixed.g D__law_mixed.F.kp D__law_mixed.b .nil pass0 (pa_cons (pe_ix (ix_listK (K := K)) (pv 2) (pv 7) (fun _ _ => rfl)) (pa_cons (pe_op op_add (pv 6) (pe_int)) pa_nil))) (pe_int)) pa_nil))))))))
     (pss_one (ps_ret (pe_listRev rfl (by rfl) T.b_list (by rfl) T.b_reversed (pv 5))))))), ?_⟩
  -- own
  refine ⟨_, rfl, 60, rfl, a, _, rfl, hS, fun c nc => ?_⟩
  refine ⟨c, _, rfl, .inl (sqL_of upd_same), fun l nl => ?_⟩
  have k1 : Ke H (upd (upd H c (.lst (cutV (ns.map V.int) none (some 60)))) l (.lst (cutV (ns.map V.int) none (some 60)))) := (Ke.new nc).trans (Ke.new nl)
  have hl1 : (upd (upd H c (.lst (cutV (ns.map V.int) none (some 60)))) l (.lst (cutV (ns.map V.int) none (some 60)))) l = some (.lst (cutV (ns.map V.int) none (some 60))) := upd_same
  generalize (upd (upd H c (.lst (cutV (ns.map V.int) none (some 60)))) l (.lst (cutV (ns.map V.int) none (some 60)))) = Ha at *
  have hla : (ns.map V.int).length = ns.length := List.length_map ..
  refine ⟨by decide, fun z nz => ?_⟩
  refine ⟨_, rfl, a, _, rfl, .inl ((k1.trans (Ke.new nz)).seqL hS (fun z => z)), rfl, .inr ⟨_, rfl, ?_⟩⟩
  refine ⟨z, _, _, rfl, rfl, upd_same, by split <;> decide, by split <;> decide, by split <;> decide, fun r nr => ?_⟩
  have k2 : Ke Ha (upd (upd Ha z (.lst [.int 0])) r (.lst (List.replicate (Int.toNat (if decide (V.int ((ns.map V.int).length : Int) = V.int 0) then 1 else 0)) [V.int 0]).flatten)) := (Ke.new nz).trans (Ke.new nr)
  have hcl : (cutV (ns.map V.int) none (some 60)).length ≤ 63 := Nat.le_trans (cutV_length _ _ _) (by omega)
  obtain ⟨own, eown, hown0, hown1⟩ := own_list ns
  refine ⟨l, r, _, _, rfl, rfl, k2.lst hl1, upd_same, ?_, fun o no => ?_⟩
  · rw [← List.length_append, eown, List.length_map]
    have := line_big
    omega
  rw [eown]
  have k3 := (k1.trans k2).trans (Ke.new (S := fun _ => False) (o := .lst (own.map V.int)) no)
  have ho : upd (upd (upd Ha z (.lst [.int 0])) r (.lst (List.replicate (Int.toNat (if decide (V.int ((ns.map V.int).length : Int) = V.int 0) = true then 1 else 0)) [V.int 0]).flatten)) o (.lst (own.map V.int)) o = some (.lst (own.map V.int)) := upd_same
  generalize upd (upd (upd Ha z (.lst [.int 0])) r (.lst (List.replicate (Int.toNat (if decide (V.int ((ns.map V.int).length : Int) = V.int 0) = true then 1 else 0)) [V.int 0]).flatten)) o (.lst (own.map V.int)) = Hb at *
  -- rest
  refine ⟨_, rfl, o, rfl, ⟨_, sqL_of ho⟩, fun D hD => ?_⟩
  refine lc_list (K := K) (a := o) (xs := own.map V.int) (fun i G => ∃ rs : List Int, rs.length = i ∧ G = upd Hb D (.lst (rs.map V.int))) ⟨[], rfl, rfl⟩ (fun i G _ hG => ?_) (fun i x G hx hG => ?_) (fun G hG => ?_)
  · obtain ⟨rs, _, rfl⟩ := hG
    exact sqL_of (by rw [upd_ne (ne_of_none ho hD)]; exact ho)
  · obtain ⟨rs, hrs, rfl⟩ := hG
    obtain ⟨v, hv, rfl⟩ : ∃ v, own[i]? = some v ∧ x = .int v := by
      rw [List.getElem?_map] at hx
      cases e : own[i]? with
      | none => rw [e] at hx; cases hx
      | some v => rw [e] at hx; exact ⟨v, rfl, (Option.some.inj hx).symm⟩
    have hi : i < own.length := (List.getElem?_eq_some_iff.mp hv).1
    refine ⟨rfl, yes_ite ?_⟩
    refine ⟨_, rfl, _, rfl, _, _, rfl, rfl, ⟨by decide, by decide, by decide⟩, _, _, rfl, rfl, .inr ⟨_, rfl, _, _, rfl, rfl, .inr ⟨by split <;> decide, by split <;> decide⟩, _, upd_same, ?_, ?_⟩⟩
    · rw [List.length_map]
      have := line_big
      omega
    · rw [upd_upd]
      exact ⟨rs ++ [_], by rw [List.length_append, hrs]; rfl, by rw [List.map_append]; rfl⟩
  · obtain ⟨rs, hrs, rfl⟩ := hG
    rw [List.length_map] at hrs
    -- the deck
    have k4 := k3.over (o := .lst (rs.map V.int)) (k3.dom _ hD)
    have ho4 : upd Hb D (.lst (rs.map V.int)) o = some (.lst (own.map V.int)) := by rw [upd_ne (ne_of_none ho hD)]; exact ho
    refine ⟨Nat.zero_le _, fun p np => ?_⟩
    obtain ⟨npD, np0⟩ := upd_none np
    have nHD := k3.dom _ hD
    have nHp := k3.dom _ np0
    refine ⟨_, rfl, n, rfl, by omega, by omega, ?_⟩
    refine for_range (n := n.toNat) (fun i σ G => ∃ (y6 y7 : Option V) (ds rs : List Int), σ = [some (.ref a), some (.int n), some (.ref o), none, some (.ref D), some (.ref p), y6, y7] ∧ Ke H G ∧ G o = some (.lst (own.map V.int)) ∧ G D = some (.lst (rs.map V.int)) ∧ rs.length = own.length ∧ G p = some (.lst (ds.map V.int)) ∧ ds.length = i ∧ Dig ds)
      ⟨none, none, [], rs, rfl, k4.over nHp, by rw [upd_ne (ne_of_none ho4 np)]; exact ho4, by rw [upd_ne npD.symm, upd_same], hrs, upd_same, rfl, fun _ z => nomatch z⟩ (fun i σ G hi hG => ?_) (fun σ G hG => ?_)
    · obtain ⟨y6, y7, ds, rs, rfl, kG, go, gD, hrs, gp, hds, hdig⟩ := hG
      have m0 := emod_bds (0 + (i : Int)) (n := own.length) (by omega)
      have hol : ((own.map V.int).length : Int) = own.length := by rw [List.length_map]
      refine ⟨_, rfl, _, rfl, o, _, rfl, .inl (sqL_of go), _, _, rfl, rfl, by rw [hol]; omega, ?_⟩
      rw [hol]
      obtain ⟨v, _, _, ev⟩ := at_int (xs := rs) m0.1 (by rw [hrs]; exact m0.2)
      obtain ⟨u, _, _, eu⟩ := at_int (xs := own) m0.1 m0.2
      have npo : o ≠ p := ne_of_none ho4 np
      refine ⟨_, rfl, _, rfl, D, _, _, _, rfl, rfl, sqL_of gD, ev, _, _, rfl, rfl, _, rfl, ite2 (fun hc => ?_) (fun hc => ?_)⟩
      · have hv : 0 < v := of_decide_eq_true hc
        have d0 := emod_bds v (n := 1000) (by decide)
        refine ⟨_, rfl, .inl ⟨rfl, _, sqL_of gp⟩, _, rfl, _, rfl, D, _, _, _, rfl, rfl, sqL_of gD, ev, _, _, rfl, rfl, p1000, p, _, _, rfl, rfl, gp, ?_, ?_⟩
        · rw [List.length_map]
          have := line_big
          omega
        · have gD2 : upd G p (.lst (ds.map V.int ++ [.int (v % 1000)])) D = some (.lst (rs.map V.int)) := by rw [upd_ne npD.symm]; exact gD
          refine ⟨_, rfl, _, rfl, D, _, _, _, rfl, rfl, sqL_of gD2, ev, _, _, rfl, rfl, ⟨by decide, by decide⟩, _, rfl, _, rfl, D, _, _, _, rfl, rfl, gD2, ix_in m0.1 (by rw [List.length_map, hrs]; exact m0.2), ?_⟩
          refine ⟨_, _, ds ++ [v % 1000], rs.set ((0 + (i : Int)) % own.length).toNat (v / 1000), rfl, (kG.over nHp).over nHD, ?_, ?_, by rw [List.length_set]; exact hrs, ?_, by rw [List.length_append, hds]; rfl, ?_⟩
          · rw [upd_ne (ne_of_none ho hD), upd_ne npo]
            exact go
          · rw [upd_same, List.map_set]
          · rw [upd_ne npD, upd_same, List.map_append]
            rfl
          · intro d hd
            rcases List.mem_append.mp hd with hd | hd
            · exact hdig d hd
            · rw [List.mem_singleton.mp hd]
              exact d0
      · refine ⟨_, rfl, .inl ⟨rfl, _, sqL_of gp⟩, _, rfl, _, rfl, o, _, _, _, rfl, rfl, sqL_of go, eu, _, rfl, _, _, rfl, rfl, _, _, rfl, by omega, by omega, fun rr hr0 => ?_⟩
        have d0 := emod_bds rr (n := 1000) (by decide)
        refine ⟨_, _, rfl, rfl, p1000, p, _, _, rfl, rfl, gp, ?_, ?_⟩
        · rw [List.length_map]
          have := line_big
          omega
        · refine ⟨_, _, ds ++ [rr % 1000], rs, rfl, kG.over nHp, ?_, ?_, hrs, ?_, by rw [List.length_append, hds]; rfl, ?_⟩
          · rw [upd_ne npo]
            exact go
          · rw [upd_ne npD.symm]
            exact gD
          · rw [upd_same, List.map_append]
            rfl
          · intro d hd
            rcases List.mem_append.mp hd with hd | hd
            · exact hdig d hd
            · rw [List.mem_singleton.mp hd]
              exact d0
    · obtain ⟨y6, y7, ds, rs, rfl, kG, go, gD, hrs, gp, hds, hdig⟩ := hG
      refine ⟨_, rfl, p, _, rfl, sqL_of gp, fun e ne => ?_⟩
      exact q e _ (kG.dom _ ne) (kG.trans (Ke.new ne)) ⟨ds.reverse, by rw [upd_same, List.map_reverse], fun d hd => hdig d (List.mem_reverse.mp hd)⟩
theorem ok__law_next {P : Program} {w : World} {K : PySem.W.Frag} {mg : Str → Option Value} {base : Heap} {tb : List Addr} {lt : List (Addr × Str)} {f : Addr} {fd : FuncData} (T : Blt mg) (D__law_next : DefAt K mg "_law_next" s_law_next ["_law_deck_here"] f fd) (LO : LtOk lt) :
    FnOk P w K mg base CX0 1 f fd ["_law_deck_here"] (sp__law_next K tb) := by
  refine D__law_next.ok sc__law_next (fun vs H Q E h => by
    obtain ⟨p, rfl, hd, q⟩ := h
    all_goals rfl) fun A outer s H vs Q E hr h => ?_
  obtain ⟨p, rfl, hd, q⟩ := h
  refine ⟨_, pss_cons (ps_if (pt_cmpR op_gt (pe_callB (lenK (K := K)) (by rfl) T.b_len PySem.boot_len (pa_cons (pv 0) pa_nil)) (pe_int) (nomark _))
     (pss_one (ps_ret (pe_bm0 PySem.F.plainAttrs_list PySem.F.slot_list_pop PySem.F.type_list_pop mt_pop (pv 0))))
     (pss_nil))
     (pss_one (ps_ret (pe_int))), ?_⟩
  obtain ⟨ds, hp, hg⟩ := id hd
  refine ⟨_, rfl, p, ds.map V.int, rfl, .inl (sqL_of hp), _, _, rfl, rfl, _, rfl, ite2 (fun e => ?_) (fun e => ?_)⟩
  · have hl : 0 < ds.length := by
      have h0 := of_decide_eq_true e
      rw [List.length_map] at h0
      omega
    have hlast : (ds.map V.int)[(ds.map V.int).length - 1]? = some (.int ds[ds.length - 1]) := by
      rw [List.length_map, List.getElem?_map, List.getElem?_eq_getElem (by omega)]
      rfl
    refine ⟨_, rfl, .inl ⟨rfl, _, sqL_of hp⟩, p, ds.map V.int, _, rfl, rfl, hp, hlast, ?_⟩
    have hm : ds[ds.length - 1] ∈ ds := List.getElem_mem _
    refine q _ _ (hg _ hm).1 (hg _ hm).2 ⟨Ke.put hp (fun _ z => nomatch z), ds.dropLast, ?_, fun d h => hg d (List.dropLast_subset _ h)⟩
    rw [upd_same, List.map_dropLast]
  · exact q 0 H (by decide) (by decide) (.refl hd)
theorem tie_ne {a r n : Int} (hn : 2 ≤ n) (a0 : 0 ≤ a) (a1 : a < n) (r0 : 0 ≤ r) (r1 : r < n - 1) : (a + 1 + r) % n ≠ a := by
  intro h
  by_cases c : a + 1 + r < n
  · rw [Int.emod_eq_of_lt (by omega) c] at h
    omega
  · have e : (a + 1 + r) % n = a + 1 + r - n := by
      rw [← Int.sub_emod_right, Int.emod_eq_of_lt (by omega) (by omega)]
    omega
theorem ok__law_tie {P : Program} {w : World} {K : PySem.W.Frag} {mg : Str → Option Value} {base : Heap} {tb : List Addr} {lt : List (Addr × Str)} {f : Addr} {fd : FuncData} {f__law_next : Addr} {fd__law_next : FuncData} (T : Blt mg) (D__law_tie : DefAt K mg "_law_tie" s_law_tie ["_law_deck_here", "_law_points"] f fd) (LO : LtOk lt) (D__law_next : DefAt K mg "_law_next" s_law_next ["_law_deck_here"] f__law_next fd__law_next) (G__law_next : FnOk P w K mg base CX0 1 f__law_next fd__law_next ["_law_deck_here"] (sp__law_next K tb)) :
    FnOk P w K mg base CX0 2 f fd ["_law_deck_here", "_law_points"] (sp__law_tie K tb) := by
  refine D__law_tie.ok sc__law_tie (fun vs H Q E h => by
    obtain ⟨p, n, rfl, hd, hn, q⟩ := h
    all_goals rfl) fun A outer s H vs Q E hr h => ?_
  obtain ⟨p, n, rfl, hd, hn, q⟩ := h
  refine ⟨_, pss_cons (ps_set (i := 2) sc__law_tie.nd rfl (.inl rfl) (pe_op op_mod (pe_call G__law_next (hr.mono (by decide)) (by rfl) D__law_next.g D__law_next.F.kp D__law_next.b .nil pass0 (pa_cons (pv 0) pa_nil)) (pv 1)))
     (pss_cons (ps_set (i := 3) sc__law_tie.nd rfl (.inl rfl) (pe_op op_mod (pe_op op_add (pe_op op_add (pv 2) (pe_int)) (pe_op op_mod (pe_call G__law_next (hr.mono (by decide)) (by rfl) D__law_next.g D__law_next.F.kp D__law_next.b .nil pass0 (pa_cons (pv 0) pa_nil)) (pe_op op_sub (pv 1) (pe_int)))) (pv 1)))
     (pss_one (ps_ret (pe_tup (pa_cons (pe_callB (call_min2 rfl) (by rfl) T.b_min (by decide +kernel) (pa_cons (pv 2) (pa_cons (pv 3) pa_nil))) (pa_cons (pe_callB (call_max2 rfl) (by rfl) T.b_max (by decide +kernel) (pa_cons (pv 2) (pa_cons (pv 3) pa_nil))) pa_nil)))))), ?_⟩
  refine ⟨_, rfl, p, rfl, hd, fun r1 H1 a0 a1 k1 => ?_⟩
  refine ⟨_, rfl, _, _, rfl, rfl, by omega, ?_⟩
  have b0 : 0 ≤ r1 % n := Int.emod_nonneg _ (by omega)
  have b1 : r1 % n < n := Int.emod_lt_of_pos _ (by omega)
  refine ⟨_, rfl, _, _, rfl, rfl, _, rfl, p, rfl, k1.d, fun r2 H2 c0 c1 k2 => ?_⟩
  refine ⟨_, rfl, _, _, rfl, rfl, _, _, rfl, rfl, by omega, _, _, rfl, rfl, _, rfl, _, _, rfl, rfl, by omega, ?_⟩
  have e0 : 0 ≤ r2 % (n - 1) := Int.emod_nonneg _ (by omega)
  have e1 : r2 % (n - 1) < n - 1 := Int.emod_lt_of_pos _ (by omega)
  have hne := tie_ne hn b0 b1 e0 e1
  have d0 : 0 ≤ (r1 % n + 1 + r2 % (n - 1)) % n := Int.emod_nonneg _ (by omega)
  have d1 : (r1 % n + 1 + r2 % (n - 1)) % n < n := Int.emod_lt_of_pos _ (by omega)
  refine ⟨_, rfl, _, rfl, _, _, rfl, _, rfl, _, rfl, _, _, rfl, by show 2 ≤ sizeLine; decide, fun t ht => ?_⟩
  exact q _ _ t H2 (by split <;> omega) (by split <;> split <;> omega) (by split <;> omega) (k1.trans k2) ht
theorem ok__law_any_web {P : Program} {w : World} {K : PySem.W.Frag} {mg : Str → Option Value} {base : Heap} {tb : List Addr} {lt : List (Addr × Str)} {f : Addr} {fd : FuncData} {f__law_next : Addr} {fd__law_next : FuncData} {f__law_tie : Addr} {fd__law_tie : FuncData} (T : Blt mg) (D__law_any_web : DefAt K mg "_law_any_web" s_law_any_web ["_law_deck_here", "_law_points", "_law_most"] f fd) (LO : LtOk lt) (D__law_next : DefAt K mg "_law_next" s_law_next ["_law_deck_here"] f__law_next fd__law_next) (G__law_next : FnOk P w K mg base CX0 1 f__law_next fd__law_next ["_law_deck_here"] (sp__law_next K tb)) (D__law_tie : DefAt K mg "_law_tie" s_law_tie ["_law_deck_here", "_law_points"] f__law_tie fd__law_tie) (G__law_tie : FnOk P w K mg base CX0 2 f__law_tie fd__law_tie ["_law_deck_here", "_law_points"] (sp__law_tie K tb)) :
    FnOk P w K mg base CX0 3 f fd ["_law_deck_here", "_law_points", "_law_most"] (sp__law_any_web K tb) := by
  refine D__law_any_web.ok sc__law_any_web (fun vs H Q E h => by
    obtain ⟨p, n, m, rfl, hd, hn0, hn1, hm0, hm1, q⟩ := h
    all_goals rfl) fun A outer s H vs Q E hr h => ?_
  obtain ⟨p, n, m, rfl, hd, hn0, hn1, hm0, hm1, q⟩ := h
  refine ⟨_, pss_cons (ps_set (i := 3) sc__law_any_web.nd rfl (.inl rfl) (pe_lst pa_nil))
     (C8.pss_cut (ps_if (pt_cmpR op_gt (pv 1) (pe_int) (nomark _))
     (pss_one (ps_setLc (i := 3) (own := [("_law_k", 4)]) rfl sc__law_any_web.nd rfl rfl (sw_true rfl rfl rfl (by decide +kernel)) (pi_range1 (by rfl) T.b_range (pa_cons (pe_op op_mod (pe_call G__law_next (hr.mono (by decide)) (by rfl) D__law_next.g D__law_next.F.kp D__law_next.b .nil pass0 (pa_cons (pv 0) pa_nil)) (pe_op op_add (pv 2) (pe_int))) pa_nil)) (blkOk_by (own := [("_law_k", 4)]) (N := nm__law_any_web) (sc := defScope s_law_any_web) (by decide +kernel)) (fun _ _ _ _ _ => pg_name (i := 4) sc__law_any_web.nd rfl (.inl rfl)) (fun _ _ _ _ _ => pts_nil) (fun _ _ _ _ _ => pe_call G__law_tie (hr.mono (by decide)) (by rfl) D__law_tie.g D__law_tie.F.kp D__law_tie.b .nil pass0 (pa_cons (pv 0) (pa_cons (pv 1) pa_nil)))))
     (pss_nil))
     (pss_one (ps_ret (pe_tup (pa_cons (pv 1) (pa_cons (pe_callTy (tupleK (K := K)) (by rfl) T.b_tuple (by decide +kernel) (pa_cons (pv 3) pa_nil)) pa_nil)))))), ?_⟩
  refine ⟨Nat.zero_le _, fun l nl => ?_⟩
  have k0 : Dk p H (upd H l (.lst [])) := (Dk.refl hd).new nl
  refine ⟨fun σ G => ∃ (y : Option V) (l' : Addr) (ts : List (Int × Int)), σ = [some (.ref p), some (.int n), some (.int m), some (.ref l'), y] ∧ Dk p H G ∧ TL G l' ts ∧ (ts.length : Int) ≤ m ∧ TOk n ts ∧ (n = 1 → ts = []), ?_, fun σ G hG => ?_⟩
  · refine ⟨_, rfl, _, _, rfl, rfl, _, rfl, ite2 (fun e => ?_) (fun e => ?_)⟩
    · have hn : 2 ≤ n := by
        have := of_decide_eq_true e
        omega
      refine ⟨_, rfl, p, rfl, k0.d, fun r H1 r0 r1 k1 => ?_⟩
      have e1 := emod_bds r (n := m + 1) (by omega)
      refine ⟨_, rfl, _, _, rfl, rfl, _, _, rfl, rfl, by omega, _, rfl, by omega, by omega, fun D hD => ?_⟩
      have k01 := k0.trans k1
      have nD := k01.k.dom _ hD
      refine lc_range (lo := 0) (n := (r % (m + 1)).toNat) (fun i G => ∃ (rs : List V) (ts : List (Int × Int)), G D = some (.lst rs) ∧ Ties G rs ts ∧ ts.length = i ∧ TOk n ts ∧ Dk p H G) ⟨[], [], upd_same, .nil, rfl, TOk.nil, k01.over hd nD⟩ (fun i G hi hG => ?_) (fun G hG => ?_)
      · obtain ⟨rs, ts, gD, gT, hl, hok, kG⟩ := hG
        refine ⟨rfl, yes_ite ?_⟩
        refine ⟨_, rfl, _, rfl, p, n, rfl, kG.d, hn, fun a b t G1 a0 ab b1 kG1 nt => ?_⟩
        have nDp : D ≠ p := (hd.ne nD).symm
        have gD1 : G1 D = some (.lst rs) := kG1.lst gD nDp
        have gD2 : upd G1 t (.tup [.int a, .int b]) D = some (.lst rs) := by rw [upd_ne (ne_of_none gD1 nt)]; exact gD1
        refine ⟨rs, gD2, ?_, rs ++ [.ref t], ts ++ [(a, b)], upd_same, ((((gT.dk kG1 kG.d).new nt).append (Ties.one upd_same)).put gD2), by rw [List.length_append, hl]; rfl, hok.append (TOk.one a0 ab b1), ((kG.trans kG1).new nt).over hd nD⟩
        rw [gT.length, hl]
        have := line_big
        omega
      · obtain ⟨rs, ts, gD, gT, hl, hok, kG⟩ := hG
        exact ⟨_, D, ts, rfl, kG, ⟨rs, gD, gT⟩, by omega, hok, fun z => absurd z (by omega)⟩
    · exact ⟨_, l, [], rfl, k0, ⟨[], upd_same, .nil⟩, by simpa using hm0, TOk.nil, fun _ => rfl⟩
  · obtain ⟨y, l', ts, rfl, kG, ⟨rs, gl, gT⟩, hlen, hok, h1⟩ := hG
    refine ⟨_, rfl, _, rfl, l', _, rfl, .inl ⟨sqL_of gl, fun u nu => ?_⟩⟩
    refine ⟨by show 2 ≤ sizeLine; decide, fun t nt => ?_⟩
    refine q _ _ ts ((kG.new nu).new nt) ⟨t, u, rs, rfl, upd_same, ?_, (gT.new nu).new nt⟩ hlen hok h1
    rw [upd_ne (upd_none nt).1.symm, upd_same]
theorem ok__law_round {P : Program} {w : World} {K : PySem.W.Frag} {mg : Str → Option Value} {base : Heap} {tb : List Addr} {lt : List (Addr × Str)} {f : Addr} {fd : FuncData} (T : Blt mg) (D__law_round : DefAt K mg "_law_round" s_law_round ["_law_points"] f fd) (LO : LtOk lt) :
    FnOk P w K mg base CX0 1 f fd ["_law_points"] (sp__law_round K tb) := by
  refine D__law_round.ok sc__law_round (fun vs H Q E h => by
    obtain ⟨n, rfl, hn0, hn1, q⟩ := h
    all_goals rfl) fun A outer s H vs Q E hr h => ?_
  obtain ⟨n, rfl, hn0, hn1, q⟩ := h
  refine ⟨_, pss_one (ps_ret (pe_op op_cat (pe_lc (own := [("_law_k", 1)]) rfl sc__law_round.nd (pi_range1 (by rfl) T.b_range (pa_cons (pe_op op_sub (pv 0) (pe_int)) pa_nil)) (blkOk_by (own := [("_law_k", 1)]) (N := nm__law_round) (sc := defScope s_law_round) (by decide +kernel)) (fun _ _ _ _ _ => pg_name (i := 1) sc__law_round.nd rfl (.inl rfl)) (fun _ _ _ _ _ => pts_nil) (fun _ _ _ _ _ => pe_tup (pa_cons (pv 1) (pa_cons (pe_op op_add (pv 1) (pe_int)) pa_nil)))) (pe_op op_rep (pe_lst (pa_cons (pe_tup (pa_cons (pe_int) (pa_cons (pe_op op_sub (pv 0) (pe_int)) pa_nil))) pa_nil)) (pe_callTy call_int1 (by rfl) T.b_int (by decide +kernel) (pa_cons (pe_cmpR op_gt (pv 0) (pe_int) (nomark _)) pa_nil))))), ?_⟩
  refine ⟨_, rfl, _, _, rfl, rfl, _, rfl, by omega, by omega, fun D hD => ?_⟩
  refine lc_range (lo := 0) (n := (n - 1).toNat) (fun i G => ∃ (rs : List V) (ts : List (Int × Int)), G D = some (.lst rs) ∧ Ties G rs ts ∧ ts.length = i ∧ TOk n ts ∧ Ke H G) ⟨[], [], upd_same, .nil, rfl, TOk.nil, Ke.new hD⟩ (fun i G hi hG => ?_) (fun G hG => ?_)
  · obtain ⟨rs, ts, gD, gT, hl, hok, kG⟩ := hG
    refine ⟨rfl, yes_ite ?_⟩
    refine ⟨_, rfl, _, rfl, _, _, rfl, rfl, by show 2 ≤ sizeLine; decide, fun t nt => ?_⟩
    have gD2 : upd G t (.tup [.int (0 + (i : Int)), .int (0 + (i : Int) + 1)]) D = some (.lst rs) := by rw [upd_ne (ne_of_none gD nt)]; exact gD
    refine ⟨rs, gD2, ?_, rs ++ [.ref t], ts ++ [(0 + (i : Int), 0 + (i : Int) + 1)], upd_same, (((gT.new nt).append (Ties.one upd_same)).put gD2), by rw [List.length_append, hl]; rfl, hok.append (TOk.one (by omega) (by omega) (by omega)), (kG.trans (Ke.new nt)).over hD⟩
    rw [gT.length, hl]
    have := line_big
    omega
  · obtain ⟨rs, ts, gD, gT, hl, hok, kG⟩ := hG
    refine ⟨_, rfl, _, _, rfl, rfl, by show 2 ≤ sizeLine; decide, fun t nt => ⟨by show 1 ≤ sizeLine; decide, fun z nz => ?_⟩⟩
    refine ⟨_, rfl, _, _, rfl, rfl, .inr ⟨_, rfl, ?_⟩⟩
    refine ⟨z, _, _, rfl, rfl, upd_same, by split <;> decide, by split <;> decide, by split <;> (show 1 * _ ≤ sizeLine; decide), fun r nr => ?_⟩
    have k1 : Ke G _ := ((Ke.new (S := fun _ => False) (o := .tup [.int 0, .int (n - 1)]) nt).trans (Ke.new (o := .lst [.ref t]) nz)).trans (Ke.new (o := .lst (List.replicate (Int.toNat (if decide (n > 2) = true then 1 else 0)) [V.ref t]).flatten) nr)
    have ht : upd (upd (upd G t (.tup [.int 0, .int (n - 1)])) z (.lst [.ref t])) r (.lst (List.replicate (Int.toNat (if decide (n > 2) = true then 1 else 0)) [V.ref t]).flatten) t = some (.tup [.int 0, .int (n - 1)]) := by
      rw [upd_ne, upd_ne (upd_none nz).1.symm, upd_same]
      exact fun e => by
        rw [← e, upd_ne (upd_none nz).1.symm, upd_same] at nr
        cases nr
    obtain ⟨us, hus, hul, huo⟩ : ∃ us : List (Int × Int), Ties (upd (upd (upd G t (.tup [.int 0, .int (n - 1)])) z (.lst [.ref t])) r (.lst (List.replicate (Int.toNat (if decide (n > 2) = true then 1 else 0)) [V.ref t]).flatten)) (List.replicate (Int.toNat (if decide (n > 2) = true then 1 else 0)) [V.ref t]).flatten us ∧ us.length ≤ 1 ∧ TOk n us := by
      by_cases h2 : n > 2
      · refine ⟨[(0, n - 1)], ?_, Nat.le_refl _, TOk.one (by decide) (by omega) (by omega)⟩
        have e : (List.replicate (Int.toNat (if decide (n > 2) = true then 1 else 0)) [V.ref t]).flatten = [V.ref t] := by rw [decide_eq_true h2]; rfl
        rw [e] at ht ⊢
        exact Ties.one ht
      · refine ⟨[], ?_, by decide, TOk.nil⟩
        have e : (List.replicate (Int.toNat (if decide (n > 2) = true then 1 else 0)) [V.ref t]).flatten = [] := by rw [decide_eq_false h2]; rfl
        rw [e]
        exact .nil
    have gT1 := gT.ke k1
    have gD1 := k1.lst gD
    have hr : upd (upd (upd G t (.tup [.int 0, .int (n - 1)])) z (.lst [.ref t])) r (.lst (List.replicate (Int.toNat (if decide (n > 2) = true then 1 else 0)) [V.ref t]).flatten) r = some (.lst (List.replicate (Int.toNat (if decide (n > 2) = true then 1 else 0)) [V.ref t]).flatten) := upd_same
    have kH := kG.trans k1
    generalize upd (upd (upd G t (.tup [.int 0, .int (n - 1)])) z (.lst [.ref t])) r (.lst (List.replicate (Int.toNat (if decide (n > 2) = true then 1 else 0)) [V.ref t]).flatten) = Hz at *
    refine ⟨D, r, _, _, rfl, rfl, gD1, hr, ?_, fun l nl => ?_⟩
    · rw [gT1.length, hus.length, hl]
      have := line_big
      omega
    · refine q _ l (ts ++ us) (kH.trans (Ke.new nl)) (kH.dom _ nl) ⟨_, upd_same, (gT1.append hus).new nl⟩ ?_ (hok.append huo)
      rw [List.length_append]
      omega
theorem ok__law_full {P : Program} {w : World} {K : PySem.W.Frag} {mg : Str → Option Value} {base : Heap} {tb : List Addr} {lt : List (Addr × Str)} {f : Addr} {fd : FuncData} (T : Blt mg) (D__law_full : DefAt K mg "_law_full" s_law_full ["_law_points"] f fd) (LO : LtOk lt) :
    FnOk P w K mg base CX0 1 f fd ["_law_points"] (sp__law_full K tb) := by
  refine D__law_full.ok sc__law_full (fun vs H Q E h => by
    obtain ⟨n, rfl, hn0, hn1, q⟩ := h
    all_goals rfl) fun A outer s H vs Q E hr h => ?_
  obtain ⟨n, rfl, hn0, hn1, q⟩ := h
  refine ⟨_, pss_cons (ps_set (i := 1) sc__law_full.nd rfl (.inl rfl) (pe_lst pa_nil))
     (pss_cons (ps_for PassesOwn.never rfl (pi_range1 (by rfl) T.b_range (pa_cons (pv 0) pa_nil)) (pg_name (i := 2) sc__law_full.nd rfl (.inr rfl))
     (pss_one (ps_set (i := 1) sc__law_full.nd rfl (.inl rfl) (pe_op op_cat (pv 1) (pe_lc (own := [("_law_a", 3)]) rfl sc__law_full.nd (pi_range1 (by rfl) T.b_range (pa_cons (pv 2) pa_nil)) (blkOk_by (own := [("_law_a", 3)]) (N := nm__law_full) (sc := defScope s_law_full) (by decide +kernel)) (fun _ _ _ _ _ => pg_name (i := 3) sc__law_full.nd rfl (.inl rfl)) (fun _ _ _ _ _ => pts_nil) (fun _ _ _ _ _ => pe_tup (pa_cons (pv 3) (pa_cons (pv 2) pa_nil))))))))
     (pss_one (ps_ret (pv 1)))), ?_⟩
  refine ⟨Nat.zero_le _, fun l0 nl0 => ?_⟩
  refine ⟨_, rfl, n, rfl, by omega, by omega, ?_⟩
  refine for_range (n := n.toNat) (fun i σ G => ∃ (y2 y3 : Option V) (l : Addr) (ts : List (Int × Int)), σ = [some (.int n), some (.ref l), y2, y3] ∧ Ke H G ∧ H l = none ∧ TL G l ts ∧ ts.length ≤ 100 * i ∧ TOk n ts)
    ⟨none, none, l0, [], rfl, Ke.new nl0, nl0, ⟨[], upd_same, .nil⟩, Nat.zero_le _, TOk.nil⟩ (fun i σ G hi hG => ?_) (fun σ G hG => ?_)
  · obtain ⟨y2, y3, l, ts, rfl, kG, nl, ⟨rs, gl, gT⟩, hlen, hok⟩ := hG
    refine ⟨_, rfl, _, rfl, _, rfl, by omega, by omega, fun D hD => ?_⟩
    have nHD := kG.dom _ hD
    refine lc_range (lo := 0) (n := (0 + (i : Int)).toNat) (fun j G' => ∃ (qs : List V) (us : List (Int × Int)), G' D = some (.lst qs) ∧ Ties G' qs us ∧ us.length = j ∧ TOk n us ∧ Ke G G') ⟨[], [], upd_same, .nil, rfl, TOk.nil, Ke.new hD⟩ (fun j G' hj hG' => ?_) (fun G' hG' => ?_)
    · obtain ⟨qs, us, gD, gU, hul, huo, kU⟩ := hG'
      refine ⟨rfl, yes_ite ?_⟩
      refine ⟨_, rfl, _, rfl, by show 2 ≤ sizeLine; decide, fun t nt => ?_⟩
      have gD2 : upd G' t (.tup [.int (0 + (j : Int)), .int (0 + (i : Int))]) D = some (.lst qs) := by rw [upd_ne (ne_of_none gD nt)]; exact gD
      refine ⟨qs, gD2, ?_, qs ++ [.ref t], us ++ [(0 + (j : Int), 0 + (i : Int))], upd_same, (((gU.new nt).append (Ties.one upd_same)).put gD2), by rw [List.length_append, hul]; rfl, huo.append (TOk.one (by omega) (by omega) (by omega)), (kU.trans (Ke.new nt)).over hD⟩
      rw [gU.length, hul]
      have := line_big
      omega
    · obtain ⟨qs, us, gD, gU, hul, huo, kU⟩ := hG'
      refine ⟨l, D, _, _, rfl, rfl, kU.lst gl, gD, ?_, fun l2 nl2 => ?_⟩
      · rw [gT.length, gU.length, hul]
        have := line_big
        omega
      · refine ⟨_, _, l2, ts ++ us, rfl, (kG.trans kU).trans (Ke.new nl2), (kG.trans kU).dom _ nl2, ⟨_, upd_same, ((gT.ke kU).append gU).new nl2⟩, ?_, hok.append huo⟩
        rw [List.length_append]
        omega
  · obtain ⟨y2, y3, l, ts, rfl, kG, nl, ht, hlen, hok⟩ := hG
    exact ⟨_, rfl, q _ l ts kG nl ht (by omega) hok⟩
theorem ok__law_tree {P : Program} {w : World} {K : PySem.W.Frag} {mg : Str → Option Value} {base : Heap} {tb : List Addr} {lt : List (Addr × Str)} {f : Addr} {fd : FuncData} {f__law_next : Addr} {fd__law_next : FuncData} (T : Blt mg) (D__law_tree : DefAt K mg "_law_tree" s_law_tree ["_law_deck_here", "_law_points"] f fd) (LO : LtOk lt) (D__law_next : DefAt K mg "_law_next" s_law_next ["_law_deck_here"] f__law_next fd__law_next) (G__law_next : FnOk P w K mg base CX0 1 f__law_next fd__law_next ["_law_deck_here"] (sp__law_next K tb)) :
    FnOk P w K mg base CX0 2 f fd ["_law_deck_here", "_law_points"] (sp__law_tree K tb) := by
  refine D__law_tree.ok sc__law_tree (fun vs H Q E h => by
    obtain ⟨p, n, rfl, hd, hn0, hn1, q⟩ := h
    all_goals rfl) fun A outer s H vs Q E hr h => ?_
  obtain ⟨p, n, rfl, hd, hn0, hn1, q⟩ := h
  refine ⟨_, pss_one (ps_ret (pe_lc (own := [("_law_k", 2)]) rfl sc__law_tree.nd (pi_range2 (by rfl) T.b_range (pa_cons (pe_int) (pa_cons (pv 1) pa_nil))) (blkOk_by (own := [("_law_k", 2)]) (N := nm__law_tree) (sc := defScope s_law_tree) (by decide +kernel)) (fun _ _ _ _ _ => pg_name (i := 2) sc__law_tree.nd rfl (.inl rfl)) (fun _ _ _ _ _ => pts_nil) (fun _ _ _ _ _ => pe_tup (pa_cons (pe_op op_mod (pe_call G__law_next (hr.mono (by decide)) (by rfl) D__law_next.g D__law_next.F.kp D__law_next.b .nil pass0 (pa_cons (pv 0) pa_nil)) (pv 2)) (pa_cons (pv 2) pa_nil))))), ?_⟩
  refine ⟨_, rfl, 1, n, rfl, ⟨by omega, by omega, by omega, by omega⟩, fun D hD => ?_⟩
  refine lc_range (lo := 1) (n := (n - 1).toNat) (fun i G => ∃ (rs : List V) (ts : List (Int × Int)), G D = some (.lst rs) ∧ Ties G rs ts ∧ ts.length = i ∧ TOk n ts ∧ Dk p H G) ⟨[], [], upd_same, .nil, rfl, TOk.nil, (Dk.refl hd).new hD⟩ (fun i G hi hG => ?_) (fun G hG => ?_)
  · obtain ⟨rs, ts, gD, gT, hl, hok, kG⟩ := hG
    refine ⟨rfl, yes_ite ?_⟩
    refine ⟨_, rfl, p, rfl, kG.d, fun r G1 r0 r1 kG1 => ?_⟩
    have e1 := emod_bds r (n := 1 + (i : Int)) (by omega)
    refine ⟨_, rfl, _, _, rfl, rfl, by omega, _, rfl, by show 2 ≤ sizeLine; decide, fun t nt => ?_⟩
    have nDp : D ≠ p := (hd.ne hD).symm
    have gD1 : G1 D = some (.lst rs) := kG1.lst gD nDp
    have gD2 : upd G1 t (.tup [.int (r % (1 + (i : Int))), .int (1 + (i : Int))]) D = some (.lst rs) := by rw [upd_ne (ne_of_none gD1 nt)]; exact gD1
    refine ⟨rs, gD2, ?_, rs ++ [.ref t], ts ++ [(r % (1 + (i : Int)), 1 + (i : Int))], upd_same, ((((gT.dk kG1 kG.d).new nt).append (Ties.one upd_same)).put gD2), by rw [List.length_append, hl]; rfl, hok.append (TOk.one e1.1 e1.2 (by omega)), ((kG.trans kG1).new nt).over hd hD⟩
    rw [gT.length, hl]
    have := line_big
    omega
  · obtain ⟨rs, ts, gD, gT, hl, hok, kG⟩ := hG
    exact q _ D ts kG hD ⟨rs, gD, gT⟩ (by omega) hok
theorem ok__law_web {P : Program} {w : World} {K : PySem.W.Frag} {mg : Str → Option Value} {base : Heap} {tb : List Addr} {lt : List (Addr × Str)} {f : Addr} {fd : FuncData} {f__law_next : Addr} {fd__law_next : FuncData} {f__law_any_web : Addr} {fd__law_any_web : FuncData} {f__law_round : Addr} {fd__law_round : FuncData} {f__law_full : Addr} {fd__law_full : FuncData} {f__law_tree : Addr} {fd__law_tree : FuncData} (T : Blt mg) (D__law_web : DefAt K mg "_law_web" s_law_web ["_law_deck_here", "_law_points", "_law_most"] f fd) (LO : LtOk lt) (D__law_next : DefAt K mg "_law_next" s_law_next ["_law_deck_here"] f__law_next fd__law_next) (G__law_next : FnOk P w K mg base CX0 1 f__law_next fd__law_next ["_law_deck_here"] (sp__law_next K tb)) (D__law_any_web : DefAt K mg "_law_any_web" s_law_any_web ["_law_deck_here", "_law_points", "_law_most"] f__law_any_web fd__law_any_web) (G__law_any_web : FnOk P w K mg base CX0 3 f__law_any_web fd__law_any_web ["_law_deck_here", "_law_points", "_law_most"] (sp__law_any_web K tb)) (D__law_round : DefAt K mg "_law_round" s_law_round ["_law_points"] f__law_round fd__law_round) (G__law_round : FnOk P w K mg base CX0 1 f__law_round fd__law_round ["_law_points"] (sp__law_round K tb)) (D__law_full : DefAt K mg "_law_full" s_law_full ["_law_points"] f__law_full fd__law_full) (G__law_full : FnOk P w K mg base CX0 1 f__law_full fd__law_full ["_law_points"] (sp__law_full K tb)) (D__law_tree : DefAt K mg "_law_tree" s_law_tree ["_law_deck_here", "_law_points"] f__law_tree fd__law_tree) (G__law_tree : FnOk P w K mg base CX0 2 f__law_tree fd__law_tree ["_law_deck_here", "_law_points"] (sp__law_tree K tb)) :
    FnOk P w K mg base CX0 4 f fd ["_law_deck_here", "_law_points", "_law_most"] (sp__law_web K tb) := by
  refine D__law_web.ok sc__law_web (fun vs H Q E h => by
    obtain ⟨p, M, m, rfl, hd, hM0, hM1, hm0, hm1, q⟩ := h
    all_goals rfl) fun A outer s H vs Q E hr h => ?_
  obtain ⟨p, M, m, rfl, hd, hM0, hM1, hm0, hm1, q⟩ := h
  refine ⟨_, pss_cons (ps_set (i := 3) sc__law_web.nd rfl (.inl rfl) (pe_op op_mod (pe_call G__law_next (hr.mono (by decide)) (by rfl) D__law_next.g D__law_next.F.kp D__law_next.b .nil pass0 (pa_cons (pv 0) pa_nil)) (pe_int)))
     (pss_cons (ps_set (i := 4) sc__law_web.nd rfl (.inl rfl) (pe_op op_add (pe_int) (pe_op op_mod (pe_call G__law_next (hr.mono (by decide)) (by rfl) D__law_next.g D__law_next.F.kp D__law_next.b .nil pass0 (pa_cons (pv 0) pa_nil)) (pv 1))))
     (pss_cons (ps_if (PW.pt (pw_or (pt_cmpR op_lt (pv 3) (pe_int) (nomark _)) (pw_or1 (pt_cmpR op_eq (pv 4) (pe_int) (nomark _)))))
     (pss_one (ps_ret (pe_call G__law_any_web (hr.mono (by decide)) (by rfl) D__law_any_web.g D__law_any_web.F.kp D__law_any_web.b .nil pass0 (pa_cons (pv 0) (pa_cons (pv 4) (pa_cons (pv 2) pa_nil))))))
     (pss_nil))
     (pss_cons (ps_set (i := 5) sc__law_web.nd rfl (.inl rfl) (pe_callTy (listK (K := K)) (by rfl) T.b_list (by decide +kernel) (pa_cons (pe_ix (ix_tupK (K := K)) (pe_call G__law_any_web (hr.mono (by decide)) (by rfl) D__law_any_web.g D__law_any_web.F.kp D__law_any_web.b .nil pass0 (pa_cons (pv 0) (pa_cons (pv 4) (pa_cons (pe_int) pa_nil)))) (pe_int) (fun _ _ => rfl)) pa_nil)))
     (C8.pss_cut (ps_if (pt_cmpR op_eq (pv 3) (pe_int) (nomark _))
     (pss_one (ps_set (i := 6) sc__law_web.nd rfl (.inl rfl) (pe_op op_cat (pe_call G__law_round (hr.mono (by decide)) (by rfl) D__law_round.g D__law_round.F.kp D__law_round.b .nil pass0 (pa_cons (pv 4) pa_nil)) (pv 5))))
     (pss_one (ps_if (pt_cmpR op_eq (pv 3) (pe_int) (nomark _))
     (pss_one (ps_set (i := 6) sc__law_web.nd rfl (.inl rfl) (pe_op op_cat (pe_call G__law_full (hr.mono (by decide)) (by rfl) D__law_full.g D__law_full.F.kp D__law_full.b .nil pass0 (pa_cons (pe_callB (call_min2 rfl) (by rfl) T.b_min (by decide +kernel) (pa_cons (pv 4) (pa_cons (pe_int) pa_nil))) pa_nil)) (pv 5))))
     (pss_one (ps_if (pt_cmpR op_eq (pv 3) (pe_int) (nomark _))
     (pss_one (ps_set (i := 6) sc__law_web.nd rfl (.inl rfl) (pe_op op_cat (pe_call G__law_tree (hr.mono (by decide)) (by rfl) D__law_tree.g D__law_tree.F.kp D__law_tree.b .nil pass0 (pa_cons (pv 0) (pa_cons (pv 4) pa_nil))) (pv 5))))
     (pss_one (ps_if (pt_cmpR op_eq (pv 3) (pe_int) (nomark _))
     (pss_one (ps_set (i := 6) sc__law_web.nd rfl (.inl rfl) (pe_op op_cat (pe_op op_rep (pe_lst (pa_cons (pe_tup (pa_cons (pe_int) (pa_cons (pe_int) pa_nil))) pa_nil)) (pe_op op_mod (pe_call G__law_next (hr.mono (by decide)) (by rfl) D__law_next.g D__law_next.F.kp D__law_next.b .nil pass0 (pa_cons (pv 0) pa_nil)) (pe_op op_add (pv 2) (pe_int)))) (pv 5))))
     (pss_one (ps_set (i := 6) sc__law_web.nd rfl (.inl rfl) (pe_op op_cat (pe_op op_cat (pe_call G__law_tree (hr.mono (by decide)) (by rfl) D__law_tree.g D__law_tree.F.kp D__law_tree.b .nil pass0 (pa_cons (pv 0) (pa_cons (pv 4) pa_nil))) (pe_call G__law_tree (hr.mono (by decide)) (by rfl) D__law_tree.g D__law_tree.F.kp D__law_tree.b .nil pass0 (pa_cons (pv 0) (pa_cons (pv 4) pa_nil)))) (pe_slice (sl_listK (K := K)) (pv 5) po_none (po_some (pe_op op_mod (pe_call G__law_next (hr.mono (by decide)) (by rfl) D__law_next.g D__law_next.F.kp D__law_next.b .nil pass0 (pa_cons (pv 0) pa_nil)) (pe_int))))))))))))))
     (pss_cons (ps_set (i := 7) sc__law_web.nd rfl (.inl rfl) (pe_op op_mod (pe_call G__law_next (hr.mono (by decide)) (by rfl) D__law_next.g D__law_next.F.kp D__law_next.b .nil pass0 (pa_cons (pv 0) pa_nil)) (pe_callB (call_max2 rfl) (by rfl) T.b_max (by decide +kernel) (pa_cons (pe_int) (pa_cons (pe_callB (lenK (K := K)) (by rfl) T.b_len PySem.boot_len (pa_cons (pv 6) pa_nil)) pa_nil)))))
     (pss_one (ps_ret (pe_tup (pa_cons (pv 4) (pa_cons (pe_callTy (tupleK (K := K)) (by rfl) T.b_tuple (by decide +kernel) (pa_cons (pe_slice (sl_listK (K := K)) (pe_op op_cat (pe_slice (sl_listK (K := K)) (pv 6) (po_some (pv 7)) po_none) (pe_slice (sl_listK (K := K)) (pv 6) po_none (po_some (pv 7)))) po_none (po_some (pv 2))) pa_nil)) pa_nil)))))))))), ?_⟩
  refine ⟨_, rfl, p, rfl, hd, fun r1 H1 a0 a1 k1 => ⟨_, _, rfl, rfl, (by show (0 : Int) < 8; decide), ?_⟩⟩
  refine ⟨_, rfl, p, rfl, k1.d, fun r2 H2 b0 b1 k2 => ⟨_, rfl, _, _, rfl, rfl, by omega, _, _, rfl, rfl, ?_⟩⟩
  have e1 := emod_bds r1 (n := 8) (by decide)
  have e2 := emod_bds r2 (n := M) (by omega)
  have k12 := k1.trans k2
  have hs0 : 1 ≤ 1 + r2 % M := by omega
  have hs1 : 1 + r2 % M ≤ M := by omega
  -- the first way out
  have way1 : ∀ Q' : V → Hp → Prop, (∀ (H' : Hp) (v : V) (ts : List (Int × Int)), Dk p H2 H' → Web H' v (1 + r2 % M) ts → (ts.length : Int) ≤ m → TOk (1 + r2 % M) ts → Q' v H') → sp__law_any_web K tb [.ref p, .int (1 + r2 % M), .int m] H2 Q' E0 := fun Q' h' =>
    ⟨p, _, m, rfl, k12.d, hs0, by omega, hm0, hm1, fun H' v ts kk W l o _ => h' H' v ts kk W l o⟩
  have out1 : sp__law_any_web K tb [.ref p, .int (1 + r2 % M), .int m] H2 Q E0 := way1 Q fun H' v ts kk W l o => q H' v _ ts (k12.trans kk) W hs0 hs1 l o
  refine ⟨_, rfl, _, _, rfl, rfl, _, rfl, ite2 (fun c1 => ?_) (fun c1 => ?_)⟩
  · exact iteT ⟨_, rfl, _, rfl, _, rfl, out1⟩
  refine ⟨_, rfl, rfl, _, rfl, ite2 (fun c2 => ?_) (fun c2 => ?_)⟩
  · exact ⟨_, rfl, _, rfl, _, rfl, out1⟩
  have hs2 : 2 ≤ 1 + r2 % M := by
    have := ne_one c2
    omega
  clear way1 out1 c1 c2
  -- some ties more
  refine ⟨_, rfl, _, rfl, p, _, 4, rfl, k12.d, hs0, by omega, by decide, by decide, fun H3 v ms k3 W3 hml hmo _ => ?_⟩
  obtain ⟨t3, u3, rs3, rfl, ht3, hu3, hT3⟩ := W3
  refine ⟨t3, _, 1, _, rfl, rfl, sqT_of ht3, atI_nat (j := 1) rfl, u3, _, rfl, .inr (sqT_of hu3), fun lm nlm => ?_⟩
  have k4 : Dk p H (upd H3 lm (.lst rs3)) := (k12.trans k3).new nlm
  have hlm : (upd H3 lm (.lst rs3)) lm = some (.lst rs3) := upd_same
  have hTm : Ties (upd H3 lm (.lst rs3)) rs3 ms := hT3.new nlm
  have nHlm : H lm = none := (k12.trans k3).k.dom _ nlm
  have nlmp : lm ≠ p := (hd.ne nHlm).symm
  generalize upd H3 lm (.lst rs3) = H4 at *
  clear nlm hu3 ht3 hT3
  have LB := line_big
  have hrs3 : rs3.length = ms.length := hTm.length
  refine ⟨fun σ G => ∃ (l : Addr) (ts : List (Int × Int)), σ = [some (.ref p), some (.int M), some (.int m), some (.int (r1 % 8)), some (.int (1 + r2 % M)), some (.ref lm), some (.ref l), none] ∧ Dk p H G ∧ H l = none ∧ TL G l ts ∧ TOk (1 + r2 % M) ts ∧ ts.length ≤ 20000, ?_, fun σ G hG => ?_⟩
  · -- the ways
    refine ⟨_, rfl, rfl, _, rfl, ite2 (fun _ => ?_) (fun _ => ?_)⟩
    · refine ⟨_, rfl, _, rfl, hs2, by omega, fun H5 l1 us k5 nl1 hTL hul huo => ?_⟩
      obtain ⟨qs, hl1, hU⟩ := hTL
      have nHl1 := k4.k.dom _ nl1
      refine ⟨_, rfl, l1, lm, _, _, rfl, rfl, hl1, k5.lst hlm, by rw [hU.length, hrs3]; omega, fun o no => ?_⟩
      exact ⟨o, us ++ ms, rfl, (k4.ke k5).new no, (k4.ke k5).k.dom _ no, ⟨_, upd_same, (hU.append (hTm.ke k5)).new no⟩, huo.append hmo, by rw [List.length_append]; omega⟩
    refine ⟨_, rfl, rfl, _, rfl, ite2 (fun _ => ?_) (fun _ => ?_)⟩
    · refine ⟨_, rfl, _, _, rfl, _, rfl, by split <;> omega, by split <;> omega, fun H5 l1 us k5 nl1 hTL hul huo => ?_⟩
      obtain ⟨qs, hl1, hU⟩ := hTL
      refine ⟨_, rfl, l1, lm, _, _, rfl, rfl, hl1, k5.lst hlm, by rw [hU.length, hrs3]; omega, fun o no => ?_⟩
      exact ⟨o, us ++ ms, rfl, (k4.ke k5).new no, (k4.ke k5).k.dom _ no, ⟨_, upd_same, (hU.append (hTm.ke k5)).new no⟩, (huo.mono (by split <;> omega)).append hmo, by rw [List.length_append]; omega⟩
    refine ⟨_, rfl, rfl, _, rfl, ite2 (fun _ => ?_) (fun _ => ?_)⟩
    · refine ⟨_, rfl, _, rfl, p, _, rfl, k4.d, hs0, by omega, fun H5 l1 us k5 nl1 hTL hul huo => ?_⟩
      obtain ⟨qs, hl1, hU⟩ := hTL
      have hTm5 := hTm.dk k5 k4.d
      refine ⟨_, rfl, l1, lm, _, _, rfl, rfl, hl1, k5.lst hlm nlmp, by rw [hU.length, hrs3]; omega, fun o no => ?_⟩
      exact ⟨o, us ++ ms, rfl, (k4.trans k5).new no, (k4.trans k5).k.dom _ no, ⟨_, upd_same, (hU.append hTm5).new no⟩, huo.append hmo, by rw [List.length_append]; omega⟩
    refine ⟨_, rfl, rfl, _, rfl, ite2 (fun _ => ?_) (fun _ => ?_)⟩
    · refine ⟨by show 2 ≤ sizeLine; decide, fun t nt => ⟨by show 1 ≤ sizeLine; decide, fun z nz => ?_⟩⟩
      have k5 : Dk p H4 (upd (upd H4 t (.tup [.int 0, .int 1])) z (.lst [.ref t])) := ((Dk.refl k4.d).new nt).new nz
      have nHz : H z = none := (k4.k.trans (Ke.new nt)).dom _ nz
      have hz5 : (upd (upd H4 t (.tup [.int 0, .int 1])) z (.lst [.ref t])) z = some (.lst [.ref t]) := upd_same
      have ht5 : (upd (upd H4 t (.tup [.int 0, .int 1])) z (.lst [.ref t])) t = some (.tup [.int 0, .int 1]) := by rw [upd_ne (upd_none nz).1.symm, upd_same]
      generalize upd (upd H4 t (.tup [.int 0, .int 1])) z (.lst [.ref t]) = H5 at *
      refine ⟨_, rfl, p, rfl, k5.d, fun r5 H6 c0 c1 k6 => ?_⟩
      have e5 := emod_bds r5 (n := m + 1) (by omega)
      have k56 := k5.trans k6
      refine ⟨_, rfl, _, _, rfl, rfl, _, _, rfl, rfl, by omega, z, _, _, rfl, rfl, k6.lst hz5 (hd.ne nHz).symm, by omega, by omega, by show 1 * _ ≤ sizeLine; omega, fun y ny => ?_⟩
      have hT7 := (hTm.dk k56 k4.d).new (o := .lst (List.replicate (r5 % (m + 1)).toNat [V.ref t]).flatten) ny
      have hR := (Ties.rep (k6.tup k5.d ht5) (r5 % (m + 1)).toNat).new (o := .lst (List.replicate (r5 % (m + 1)).toNat [V.ref t]).flatten) ny
      have hlm7 : upd H6 y (.lst (List.replicate (r5 % (m + 1)).toNat [V.ref t]).flatten) lm = some (.lst rs3) := lst_new ny (k56.lst hlm nlmp)
      have hrl := hR.length
      rw [List.length_replicate] at hrl
      refine ⟨_, rfl, y, lm, _, _, rfl, rfl, upd_same, hlm7, by rw [hrl, hrs3]; omega, fun o no => ?_⟩
      exact ⟨o, List.replicate (r5 % (m + 1)).toNat (0, 1) ++ ms, rfl, ((k4.trans k56).new ny).new no, ((k4.trans k56).new (o := .lst (List.replicate (r5 % (m + 1)).toNat [V.ref t]).flatten) ny).k.dom _ no, ⟨_, upd_same, (hR.append hT7).new no⟩, (TOk.rep (by decide) (by decide) (by omega) _).append hmo, by rw [List.length_append, List.length_replicate]; omega⟩
    · refine ⟨_, rfl, _, rfl, p, _, rfl, k4.d, hs0, by omega, fun H5 l1 us k5 nl1 hTL hul huo => ?_⟩
      obtain ⟨qs, hl1, hU⟩ := hTL
      have nHl1 := k4.k.dom _ nl1
      refine ⟨_, rfl, _, rfl, p, _, rfl, k5.d, hs0, by omega, fun H6 l2 ws k6 nl2 hTL2 hwl hwo => ?_⟩
      obtain ⟨xs2, hl2, hW⟩ := hTL2
      refine ⟨l1, l2, _, _, rfl, rfl, k6.lst hl1 (hd.ne nHl1).symm, hl2, by rw [hU.length, hW.length]; omega, fun o no => ?_⟩
      have k7 := k6.new (o := .lst (qs ++ xs2)) no
      have hUW := ((hU.dk k6 k5.d).append hW).new (o := .lst (qs ++ xs2)) no
      have nHo := ((k4.trans k5).trans k6).k.dom _ no
      have ho : upd H6 o (.lst (qs ++ xs2)) o = some (.lst (qs ++ xs2)) := upd_same
      generalize upd H6 o (.lst (qs ++ xs2)) = H7 at *
      have k57 := k5.trans k7
      refine ⟨_, rfl, _, rfl, p, rfl, k57.d, fun r8 H8 c0 c1 k8 => ?_⟩
      have e8 := emod_bds r8 (n := 2) (by decide)
      refine ⟨_, _, rfl, rfl, (by show (0 : Int) < 2; decide), _, rfl, lm, _, rfl, sqL_of ((k57.trans k8).lst hlm nlmp), fun x nx => ?_⟩
      rw [cut_to' _ e8.1]
      have hTx := ((hTm.dk (k57.trans k8) k4.d).take (r8 % 2).toNat).new (o := .lst (rs3.take (r8 % 2).toNat)) nx
      have hUx := (hUW.dk k8 k57.d).new (o := .lst (rs3.take (r8 % 2).toNat)) nx
      have hox := lst_new (o := .lst (rs3.take (r8 % 2).toNat)) nx (k8.lst ho (hd.ne nHo).symm)
      have hlx := hTx.length
      rw [List.length_take, List.length_take] at hlx
      have hly := hUx.length
      rw [List.length_append, List.length_append] at hly
      refine ⟨o, x, _, _, rfl, rfl, hox, upd_same, by rw [List.length_append, List.length_take]; omega, fun y ny => ?_⟩
      have kz := (k4.trans (k57.trans k8)).new (o := .lst (rs3.take (r8 % 2).toNat)) nx
      refine ⟨y, (us ++ ws) ++ ms.take (r8 % 2).toNat, rfl, kz.new ny, kz.k.dom _ ny, ⟨_, upd_same, (hUx.append hTx).new ny⟩, (huo.append hwo).append (hmo.sub fun t ht => List.mem_of_mem_take ht), ?_⟩
      rw [List.length_append, List.length_append, List.length_take]
      omega
  · -- turned, and cut
    obtain ⟨l, ts, rfl, kG, nl, ⟨qs, hl, hT⟩, hok, hlen⟩ := hG
    have hql : qs.length = ts.length := hT.length
    refine ⟨_, rfl, p, rfl, kG.d, fun r9 H9 c0 c1 k9 => ?_⟩
    have nlp : l ≠ p := (hd.ne nl).symm
    have hl9 := k9.lst hl nlp
    have hT9 := hT.dk k9 kG.d
    refine ⟨_, rfl, l, _, rfl, .inl (sqL_of hl9), _, _, rfl, _, _, rfl, rfl, by split <;> omega, ?_⟩
    have e9 := emod_bds r9 (n := if (qs.length : Int) > 1 then (qs.length : Int) else 1) (by split <;> omega)
    obtain ⟨d, hdd⟩ : ∃ d : Nat, (d : Int) = r9 % (if (qs.length : Int) > 1 then (qs.length : Int) else 1) := ⟨_, Int.toNat_of_nonneg e9.1⟩
    have cf : ∀ xs : List V, cutV xs (some (r9 % (if (qs.length : Int) > 1 then (qs.length : Int) else 1))) none = xs.drop d := fun xs => by rw [← hdd, cut_from]
    have ct : ∀ xs : List V, cutV xs none (some (r9 % (if (qs.length : Int) > 1 then (qs.length : Int) else 1))) = xs.take d := fun xs => by rw [← hdd, cut_to]
    refine ⟨_, rfl, _, rfl, _, rfl, _, rfl, l, _, rfl, sqL_of hl9, fun x nx => ?_⟩
    rw [cf]
    have hlx := lst_new (o := .lst (qs.drop d)) nx hl9
    refine ⟨_, rfl, _, rfl, _, rfl, l, _, rfl, sqL_of hlx, fun y ny => ?_⟩
    rw [ct]
    have hxy := lst_new (o := .lst (qs.take d)) ny (show upd H9 x (.lst (qs.drop d)) x = _ from upd_same)
    refine ⟨x, y, _, _, rfl, rfl, hxy, upd_same, by rw [List.length_drop, List.length_take]; omega, fun z nz => ?_⟩
    refine ⟨_, rfl, _, rfl, z, _, rfl, sqL_of upd_same, fun w nw => ?_⟩
    rw [cut_to' _ hm0]
    refine ⟨w, _, rfl, .inl ⟨sqL_of upd_same, fun u nu => ?_⟩⟩
    refine ⟨by show 2 ≤ sizeLine; decide, fun t nt => ?_⟩
    refine q _ _ _ _ (((((((kG.trans k9).new nx).new ny).new nz).new nw).new nu).new nt) ⟨t, u, _, rfl, upd_same, ?_, ((((((((hT9.drop d).append (hT9.take d)).take m.toNat).new nx).new ny).new nz).new nw).new nu).new nt⟩ hs0 hs1 ?_ (hok.sub fun t ht => ?_)
    · rw [upd_ne (upd_none nt).1.symm, upd_same]
    · rw [List.length_take]
      omega
    · rcases List.mem_append.mp (List.mem_of_mem_take ht) with ht | ht
      · exact List.mem_of_mem_drop ht
      · exact List.mem_of_mem_take ht
theorem ok__law_heads {P : Program} {w : World} {K : PySem.W.Frag} {mg : Str → Option Value} {base : Heap} {tb : List Addr} {lt : List (Addr × Str)} {f : Addr} {fd : FuncData} (T : Blt mg) (D__law_heads : DefAt K mg "_law_heads" s_law_heads ["_law_points", "_law_ties"] f fd) (LO : LtOk lt) :
    FnOk P w K mg base CX0 1 f fd ["_law_points", "_law_ties"] (sp__law_heads K tb) := by
  refine D__law_heads.ok sc__law_heads (fun vs H Q E h => by
    obtain ⟨n, u, rs, ts, rfl, hu, hT, hok, hn0, hn1, q⟩ := h
    all_goals rfl) fun A outer s H vs Q E hr h => ?_
  obtain ⟨n, u, rs, ts, rfl, hu, hT, hok, hn0, hn1, q⟩ := h
  refine ⟨_, pss_cons (ps_set (i := 2) sc__law_heads.nd rfl (.inl rfl) (pe_listRg rfl (by rfl) T.b_list (prg_1 (by rfl) T.b_range (pv 0))))
     (pss_cons (ps_for PassesOwn.never rfl (pi_list (pv 1)) (tgtK (K := K) (n := 2) (pgs_cons (pg_name (i := 3) sc__law_heads.nd rfl (.inl rfl)) (pgs_cons (pg_name (i := 4) sc__law_heads.nd rfl (.inl rfl)) pgs_nil)))
     (pss_cons (ps_set (i := 5) sc__law_heads.nd rfl (.inr rfl) (pe_ix (ix_listK (K := K)) (pv 2) (pv 3) (fun _ _ => rfl)))
     (pss_cons (ps_set (i := 6) sc__law_heads.nd rfl (.inr rfl) (pe_ix (ix_listK (K := K)) (pv 2) (pv 4) (fun _ _ => rfl)))
     (pss_one (ps_setLc (i := 2) (own := [("_law_head", 7)]) rfl sc__law_heads.nd rfl rfl (sw_true rfl rfl rfl (by decide +kernel)) (pi_list (pv 2)) (blkOk_by (own := [("_law_head", 7)]) (N := nm__law_heads) (sc := defScope s_law_heads) (by decide +kernel)) (fun _ _ _ _ _ => pg_name (i := 7) sc__law_heads.nd rfl (.inl rfl)) (fun _ _ _ _ _ => pts_nil) (fun _ _ _ _ _ => pe_ix (ix_listK (K := K)) (pe_lst (pa_cons (pv 7) (pa_cons (pe_callB (call_min2 rfl) (by rfl) T.b_min (by decide +kernel) (pa_cons (pv 5) (pa_cons (pv 6) pa_nil))) pa_nil))) (pe_callTy call_int1 (by rfl) T.b_int (by decide +kernel) (pa_cons (pe_cmpR (in_seqK (K := K)) (pv 7) (pe_lst (pa_cons (pv 5) (pa_cons (pv 6) pa_nil))) (by rfl)) pa_nil)) (fun _ _ => rfl)))))))
     (pss_one (ps_ret (pv 2)))), ?_⟩
  refine ⟨_, rfl, n, rfl, ⟨by omega, by omega, by omega, by omega, by omega⟩, fun l nl => ?_⟩
  refine ⟨_, rfl, u, rfl, ⟨_, sqL_of (lst_new nl hu)⟩, ?_⟩
  refine for_list (K := K) (a := u) (xs := rs) (fun i σ G => ∃ (y3 y4 y5 y6 y7 : Option V) (l' : Addr), σ = [some (.int n), some (.ref u), some (.ref l'), y3, y4, y5, y6, y7] ∧ Ke H G ∧ G l' = some (.lst ((headsF (upTo n) (ts.take i)).map V.int))) ⟨_, _, _, _, _, l, rfl, Ke.new nl, by rw [upd_same, rgV_up]; rfl⟩ (fun i σ G _ hG => ?_) (fun i x σ G hx hG => ?_) (fun σ G hG => ?_)
  · obtain ⟨_, _, _, _, _, _, _, kG, _⟩ := hG
    exact sqL_of (kG.lst hu)
  · obtain ⟨y3, y4, y5, y6, y7, l', rfl, kG, gl⟩ := hG
    obtain ⟨⟨x1, x2⟩, r', hti, rfl, hr'⟩ := hT.get hx
    obtain ⟨ok1, ok2, ok3⟩ := hok _ (List.mem_of_getElem? hti)
    dsimp only at ok1 ok2 ok3
    have en : headsF (upTo n) (ts.take (i + 1)) = hstep (headsF (upTo n) (ts.take i)) (x1, x2) := by rw [take_next hti, headsF_snoc]
    have hl : ((headsF (upTo n) (ts.take i)).length : Int) = n := by rw [headsF_length, upTo_length]; omega
    obtain ⟨hs, ehs⟩ : ∃ hs, hs = headsF (upTo n) (ts.take i) := ⟨_, rfl⟩
    rw [← ehs] at en hl gl
    refine ⟨r', _, rfl, sqT_of (kG.tup hr'), rfl, _, _, rfl, _, [], rfl, rfl, ?_⟩
    refine ⟨_, rfl, _, rfl, l', _, _, _, rfl, rfl, sqL_of gl, hat_at ok1 (by omega), ?_⟩
    refine ⟨_, rfl, _, rfl, l', _, _, _, rfl, rfl, sqL_of gl, hat_at (x := x2) (by omega) (by omega), ?_⟩
    refine ⟨_, rfl, l', rfl, ⟨_, sqL_of gl⟩, fun D hD => ?_⟩
    refine lc_list (K := K) (a := l') (xs := hs.map V.int) (fun j G' => Ke H G' ∧ G' l' = some (.lst (hs.map V.int)) ∧ G' D = some (.lst (((hs.take j).map (mrg (hat hs x1) (hat hs x2))).map V.int))) ⟨kG.trans (Ke.new hD), lst_new hD gl, upd_same⟩ (fun j G' _ hG' => sqL_of hG'.2.1) (fun j x G' hx' hG' => ?_) (fun G' hG' => ?_)
    · obtain ⟨kG', gl', gD'⟩ := hG'
      obtain ⟨h, hh, rfl⟩ := int_at hx'
      refine ⟨rfl, yes_ite ?_⟩
      refine ⟨_, rfl, _, rfl, _, rfl, _, _, rfl, by show 2 ≤ sizeLine; decide, fun b nb => ?_⟩
      refine ⟨_, rfl, _, rfl, _, rfl, by show 2 ≤ sizeLine; decide, fun c nc => ?_⟩
      refine ⟨c, [hat hs x1, hat hs x2].map V.int, rfl, .inl (sqL_of upd_same), rfl, rfl, .inr ⟨_, rfl, ?_⟩⟩
      have hj : j < hs.length := (List.getElem?_eq_some_iff.mp hh).1
      have e0 : ((hs.take (j + 1)).map (mrg (hat hs x1) (hat hs x2))).map V.int = ((hs.take j).map (mrg (hat hs x1) (hat hs x2))).map V.int ++ [V.int (mrg (hat hs x1) (hat hs x2) h)] := by rw [take_next hh, List.map_append, List.map_append]; rfl
      refine ⟨b, [V.int h, V.int (if hat hs x2 < hat hs x1 then hat hs x2 else hat hs x1)], _, V.int (mrg (hat hs x1) (hat hs x2) h), rfl, rfl, sqL_of (lst_new nc upd_same), ?_, _, lst_new nc (lst_new nb gD'), ?_, ?_⟩
      · show atI [V.int h, V.int (if hat hs x2 < hat hs x1 then hat hs x2 else hat hs x1)] (if inV (V.int h) ([hat hs x1, hat hs x2].map V.int) = true then 1 else 0) = _
        rw [inV_int]
        have em : (if hat hs x2 < hat hs x1 then hat hs x2 else hat hs x1) = min (hat hs x1) (hat hs x2) := by
          rw [Int.min_def]
          split <;> split <;> omega
        rw [em]
        unfold mrg
        by_cases z : h = hat hs x1 ∨ h = hat hs x2
        · have d : decide (h ∈ [hat hs x1, hat hs x2]) = true := decide_eq_true (by simpa using z)
          rw [d, if_pos rfl, if_pos z]
          rfl
        · have d : decide (h ∈ [hat hs x1, hat hs x2]) = false := decide_eq_false (by simpa using z)
          rw [d, if_neg (by decide), if_neg z]
          rfl
      · rw [List.length_map, List.length_map, List.length_take]
        have := line_big
        omega
      · rw [← e0]
        exact ⟨((kG'.trans (Ke.new nb)).trans (Ke.new nc)).over (kG.dom _ hD), by
          rw [upd_ne (ne_of_none gl hD)]
          exact lst_new nc (lst_new nb gl'), upd_same⟩
    · obtain ⟨kG', gl', gD'⟩ := hG'
      rw [List.length_map, List.take_length] at gD'
      exact ⟨_, _, _, _, _, D, rfl, kG', by rw [en]; exact gD'⟩
  · obtain ⟨_, _, _, _, _, l', rfl, kG, gl⟩ := hG
    rw [hT.length, List.take_length] at gl
    exact ⟨_, rfl, q l' G kG gl⟩
theorem ok__law_is_forest {P : Program} {w : World} {K : PySem.W.Frag} {mg : Str → Option Value} {base : Heap} {tb : List Addr} {lt : List (Addr × Str)} {f : Addr} {fd : FuncData} {f__law_heads : Addr} {fd__law_heads : FuncData} (T : Blt mg) (D__law_is_forest : DefAt K mg "_law_is_forest" s_law_is_forest ["_law_points", "_law_ties"] f fd) (LO : LtOk lt) (D__law_heads : DefAt K mg "_law_heads" s_law_heads ["_law_points", "_law_ties"] f__law_heads fd__law_heads) (G__law_heads : FnOk P w K mg base CX0 1 f__law_heads fd__law_heads ["_law_points", "_law_ties"] (sp__law_heads K tb)) :
    FnOk P w K mg base CX0 2 f fd ["_law_points", "_law_ties"] (sp__law_is_forest K tb) := by
  refine D__law_is_forest.ok sc__law_is_forest (fun vs H Q E h => by
    obtain ⟨n, u, rs, ts, rfl, hu, hT, hok, hn0, hn1, q⟩ := h
    all_goals rfl) fun A outer s H vs Q E hr h => ?_
  obtain ⟨n, u, rs, ts, rfl, hu, hT, hok, hn0, hn1, q⟩ := h
  refine ⟨_, pss_one (ps_ret (pe_cmpR op_eq (pe_op op_add (pe_callB (lenK (K := K)) (by rfl) T.b_len PySem.boot_len (pa_cons (pv 1) pa_nil)) (pe_lenSetL (by rfl) T.b_len (by rfl) T.b_set (pe_call G__law_heads (hr.mono (by decide)) (by rfl) D__law_heads.g D__law_heads.F.kp D__law_heads.b .nil pass0 (pa_cons (pv 0) (pa_cons (pv 1) pa_nil))))) (pv 0) (nomark _))), ?_⟩
  refine ⟨_, rfl, u, rs, rfl, .inl (sqL_of hu), ?_⟩
  refine ⟨_, rfl, _, rfl, n, u, rs, ts, rfl, hu, hT, hok, hn0, hn1, fun l H1 k1 hl => ?_⟩
  refine ⟨l, _, rfl, sqL_of hl, ?_, ?_⟩
  · rw [headsF_length, upTo_length]
    omega
  refine ⟨_, _, rfl, rfl, ?_⟩
  refine ⟨_, rfl, rfl, ?_⟩
  have q1 := q H1 k1
  rw [forest_iff hn0 hok] at q1
  rw [decide_int, hT.length]
  exact q1
theorem ok__law_is_int {P : Program} {w : World} {K : PySem.W.Frag} {mg : Str → Option Value} {base : Heap} {tb : List Addr} {lt : List (Addr × Str)} {f : Addr} {fd : FuncData} (T : Blt mg) (D__law_is_int : DefAt K mg "_law_is_int" s_law_is_int ["_law_thing", "_law_least", "_law_most"] f fd) (LO : LtOk lt) :
    FnOk P w K mg base CX0 1 f fd ["_law_thing", "_law_least", "_law_most"] (sp__law_is_int K tb) := by
  refine D__law_is_int.ok sc__law_is_int (fun vs H Q E h => by
    obtain ⟨v, lo, hi, n, rfl, hv, q⟩ := h
    all_goals rfl) fun A outer s H vs Q E hr h => ?_
  obtain ⟨v, lo, hi, n, rfl, hv, q⟩ := h
  refine ⟨_, pss_one (ps_ret (pe_and (pe_callB (isiK (K := K)) (by rfl) T.b_isinstance (by decide +kernel) (pa_cons (pv 0) (pa_cons (pe_bltn (v := .ty "int") (u := .type "int") (by rfl) T.b_int (by decide +kernel) rfl) pa_nil))) (pe_and (pe_not (pe_callB (isiK (K := K)) (by rfl) T.b_isinstance (by decide +kernel) (pa_cons (pv 0) (pa_cons (pe_bltn (v := .ty "bool") (u := .type "bool") (by rfl) T.b_bool (by decide +kernel) rfl) pa_nil)))) (pe_one (pe_chain op_le op_le (pv 1) (pv 0) (pv 2)))))), ?_⟩
  refine ⟨_, rfl, v, _, _, _, _, rfl, .ty _, hv.x, hv.isi (.inl rfl), _, rfl, ?_⟩
  cases hv with
  | int i =>
    refine iteT ⟨_, rfl, _, _, _, _, false, rfl, .ty _, (TyN.int i).x, (TyN.int (H := H) i).isi (.inr (.inl rfl)), false, rfl, true, rfl, iteT ?_⟩
    refine ⟨_, rfl, _, rfl, _, _, rfl, rfl, _, rfl, iteB (fun e => ⟨_, rfl, _, _, rfl, rfl, ?_⟩) (fun e => ?_)⟩
    · have z : isNum (.int i) lo hi = decide (i ≤ hi) := by show (decide (lo ≤ i) && decide (i ≤ hi)) = _; rw [e, Bool.true_and]
      rw [z] at q
      exact q
    · have z : isNum (.int i) lo hi = false := by show (decide (lo ≤ i) && decide (i ≤ hi)) = _; rw [e, Bool.false_and]
      rw [z] at q
      exact q
  | bl b => exact iteT ⟨_, rfl, _, _, _, _, true, rfl, .ty _, (TyN.bl b).x, (TyN.bl (H := H) b).isi (.inr (.inl rfl)), true, rfl, false, rfl, iteF q⟩
  | non => exact iteF q
  | str x => exact iteF q
  | lst h => exact iteF q
  | tup h => exact iteF q
  | dic h => exact iteF q
theorem ok__law_is_true {P : Program} {w : World} {K : PySem.W.Frag} {mg : Str → Option Value} {base : Heap} {tb : List Addr} {lt : List (Addr × Str)} {f : Addr} {fd : FuncData} (T : Blt mg) (D__law_is_true : DefAt K mg "_law_is_true" s_law_is_true ["_law_found", "_law_due"] f fd) (LO : LtOk lt) :
    FnOk P w K mg base CX0 1 f fd ["_law_found", "_law_due"] (sp__law_is_true K tb) := by
  refine D__law_is_true.ok sc__law_is_true (fun vs H Q E h => by
    obtain ⟨a, b, rfl, q⟩ := h
    all_goals rfl) fun A outer s H vs Q E hr h => ?_
  obtain ⟨a, b, rfl, q⟩ := h
  refine ⟨_, pss_cons (ps_if (pt_val (pv 1))
     (pss_one (ps_ret (pe_cmpR op_isBl (pv 0) (pe_bl) (nomark _))))
     (pss_nil))
     (pss_one (ps_ret (pe_cmpR op_isBl (pv 0) (pe_bl) (nomark _)))), ?_⟩
  cases b with
  | true => exact ⟨_, rfl, true, rfl, iteT ⟨_, rfl, a, true, rfl, rfl, q⟩⟩
  | false => exact ⟨_, rfl, false, rfl, iteF ⟨_, rfl, a, false, rfl, rfl, q⟩⟩
theorem ok__law_lot {P : Program} {w : World} {K : PySem.W.Frag} {mg : Str → Option Value} {base : Heap} {tb : List Addr} {lt : List (Addr × Str)} {f : Addr} {fd : FuncData} {f__law_next : Addr} {fd__law_next : FuncData} (T : Blt mg) (D__law_lot : DefAt K mg "_law_lot" s_law_lot ["_law_deck_here", "_law_points"] f fd) (LO : LtOk lt) (D__law_next : DefAt K mg "_law_next" s_law_next ["_law_deck_here"] f__law_next fd__law_next) (G__law_next : FnOk P w K mg base CX0 1 f__law_next fd__law_next ["_law_deck_here"] (sp__law_next K tb)) :
    FnOk P w K mg base CX0 2 f fd ["_law_deck_here", "_law_points"] (sp__law_lot K tb) := by
  refine D__law_lot.ok sc__law_lot (fun vs H Q E h => by
    obtain ⟨p, n, rfl, hd, hn0, hn1, q⟩ := h
    all_goals rfl) fun A outer s H vs Q E hr h => ?_
  obtain ⟨p, n, rfl, hd, hn0, hn1, q⟩ := h
  refine ⟨_, pss_cons (ps_set (i := 2) sc__law_lot.nd rfl (.inr rfl) (pe_op op_add (pe_op op_add (pe_call G__law_next (hr.mono (by decide)) (by rfl) D__law_next.g D__law_next.F.kp D__law_next.b .nil pass0 (pa_cons (pv 0) pa_nil)) (pe_op op_mul (pe_int) (pe_call G__law_next (hr.mono (by decide)) (by rfl) D__law_next.g D__law_next.F.kp D__law_next.b .nil pass0 (pa_cons (pv 0) pa_nil)))) (pe_op op_mul (pe_int) (pe_call G__law_next (hr.mono (by decide)) (by rfl) D__law_next.g D__law_next.F.kp D__law_next.b .nil pass0 (pa_cons (pv 0) pa_nil)))))
     (pss_cons (ps_setLc (i := 4) (own := [("_law_k", 3)]) rfl sc__law_lot.nd rfl rfl (sw_true rfl rfl rfl (by decide +kernel)) (pi_range1 (by rfl) T.b_range (pa_cons (pv 1) pa_nil)) (blkOk_by (own := [("_law_k", 3)]) (N := nm__law_lot) (sc := defScope s_law_lot) (by decide +kernel)) (fun _ _ _ _ _ => pg_name (i := 3) sc__law_lot.nd rfl (.inl rfl)) (fun _ _ _ _ _ => pts_one (pt_cmpR op_eq (pe_op op_and (pe_op op_shr (pv 2) (pe_op op_mod (pv 3) (pe_int))) (pe_int)) (pe_int) (nomark _))) (fun _ _ _ _ _ => pv 3))
     (C8.pss_cut (ps_if (pt_cmpR (eqDK (K := K) hr.units) (pv 4) (pe_lst pa_nil) (nomark _))
     (pss_one (ps_set (i := 4) sc__law_lot.nd rfl (.inl rfl) (pe_lst (pa_cons (pe_op op_mod (pe_call G__law_next (hr.mono (by decide)) (by rfl) D__law_next.g D__law_next.F.kp D__law_next.b .nil pass0 (pa_cons (pv 0) pa_nil)) (pv 1)) pa_nil))))
     (pss_nil))
     (pss_one (ps_ret (pe_callTy (tupleK (K := K)) (by rfl) T.b_tuple (by decide +kernel) (pa_cons (pv 4) pa_nil)))))), ?_⟩
  refine ⟨_, rfl, p, rfl, hd, fun r1 H1 a0 a1 k1 => ⟨_, rfl, p, rfl, k1.d, fun r2 H2 b0 b1 k2 => ⟨_, _, rfl, rfl, .inl ⟨by decide, by decide⟩, _, _, rfl, rfl, ?_⟩⟩⟩
  refine ⟨_, rfl, p, rfl, k2.d, fun r3 H3 c0 c1 k3 => ⟨_, _, rfl, rfl, .inl ⟨by decide, by decide⟩, _, _, rfl, rfl, ?_⟩⟩
  have k := (k1.trans k2).trans k3
  have LB := line_big
  refine ⟨_, rfl, n, rfl, by omega, by omega, fun D hD => ?_⟩
  have nHD := k.k.dom _ hD
  refine lc_range (lo := 0) (n := n.toNat) (fun i G => ∃ ls : List Int, G = upd H3 D (.lst (ls.map V.int)) ∧ ls.Pairwise (· < ·) ∧ ls.length ≤ i ∧ ∀ x ∈ ls, 0 ≤ x ∧ x < (i : Int)) ⟨[], rfl, .nil, Nat.le_refl _, fun _ z => nomatch z⟩ (fun i G hi hG => ?_) (fun G hG => ?_)
  · obtain ⟨ls, rfl, hp, hl, hx⟩ := hG
    refine ⟨rfl, _, rfl, _, rfl, _, _, rfl, rfl, (by show (0 : Int) < 28; decide), _, _, rfl, rfl, (emod_bds (0 + (i : Int)) (n := 28) (by decide)).1, _, _, rfl, rfl, rfl, _, rfl, iteB (fun _ => ?_) (fun _ => ?_)⟩
    · refine ⟨_, rfl, _, upd_same, by rw [List.length_map]; omega, ls ++ [0 + (i : Int)], by rw [upd_upd, List.map_append]; rfl, ?_, by rw [List.length_append]; exact Nat.succ_le_succ hl, ?_⟩
      · rw [List.pairwise_append]
        refine ⟨hp, List.pairwise_singleton _ _, fun x hm y hy => ?_⟩
        rw [List.mem_singleton.mp hy]
        have := (hx x hm).2
        omega
      · intro x hm
        rcases List.mem_append.mp hm with hm | hm
        · have := hx x hm
          omega
        · rw [List.mem_singleton.mp hm]
          omega
    · exact ⟨ls, rfl, hp, by omega, fun x hm => ⟨(hx x hm).1, by have := (hx x hm).2; omega⟩⟩
  · obtain ⟨ls, rfl, hp, hl, hx⟩ := hG
    have kD := k.over (o := .lst (ls.map V.int)) hd nHD
    refine ⟨fun σ G => ∃ (y2 y3 : Option V) (l : Addr) (ls : List Int), σ = [some (.ref p), some (.int n), y2, y3, some (.ref l)] ∧ Dk p H G ∧ G l = some (.lst (ls.map V.int)) ∧ Lot n ls, ?_, fun σ G hG => ?_⟩
    · refine ⟨_, rfl, Nat.zero_le _, fun z nz => ?_⟩
      have hDz : upd (upd H3 D (.lst (ls.map V.int))) z (.lst []) D = some (.lst (ls.map V.int)) := lst_new nz upd_same
      refine ⟨.list (ls.map PyData.int), .list [], .lst (sqL_of hDz) (dp_ints ls), .lst (sqL_of upd_same) .nil, PySem.W.shaped_ints ls, PySem.W.shaped_ints [], _, rfl, iteB (fun e => ?_) (fun e => ?_)⟩
      · refine ⟨_, rfl, p, rfl, (kD.new nz).d, fun r4 H4 d0 d1 k4 => ?_⟩
        refine ⟨_, rfl, _, _, rfl, rfl, by omega, by show 1 ≤ sizeLine; decide, fun l nl => ?_⟩
        have e4 := emod_bds r4 (n := n) (by omega)
        exact ⟨_, _, l, [r4 % n], rfl, ((kD.new nz).trans k4).new nl, upd_same, Lot.one e4.1 e4.2⟩
      · refine ⟨_, _, D, ls, rfl, kD.new nz, hDz, fun z => ?_, hp, fun x hm => ⟨(hx x hm).1, by have := (hx x hm).2; omega⟩⟩
        rw [z] at e
        cases e
    · obtain ⟨y2, y3, l, ls, rfl, kG, hl, hL⟩ := hG
      refine ⟨_, rfl, l, _, rfl, .inl ⟨sqL_of hl, fun t nt => ?_⟩⟩
      exact q _ t ls (kG.new nt) (kG.k.dom _ nt) upd_same hL
theorem ok__law_odd_things {P : Program} {w : World} {K : PySem.W.Frag} {mg : Str → Option Value} {base : Heap} {tb : List Addr} {lt : List (Addr × Str)} {f : Addr} {fd : FuncData} (T : Blt mg) (D__law_odd_things : DefAt K mg "_law_odd_things" s_law_odd_things [] f fd) (LO : LtOk lt) :
    FnOk P w K mg base CX0 1 f fd [] (sp__law_odd_things K tb) := by
  refine D__law_odd_things.ok sc__law_odd_things (fun vs H Q E h => by
    obtain ⟨rfl, q⟩ := h
    all_goals rfl) fun A outer s H vs Q E hr h => ?_
  obtain ⟨rfl, q⟩ := h
  refine ⟨_, pss_cons (ps_set (i := 0) sc__law_odd_things.nd rfl (.inl rfl) (pe_lst (pa_cons (pe_non) (pa_cons (pe_bl) (pa_cons (pe_bl) (pa_cons (pe_int) (pa_cons (pe_int) (pa_cons (pe_un un_neg (pe_int)) (pa_cons (pe_int) (pa_cons (pe_str) (pa_cons (pe_str) (pa_cons (pe_str) (pa_cons (pe_tup pa_nil) (pa_cons (pe_lst pa_nil) (pa_cons (pe_dnewK) (pa_cons (pe_tup (pa_cons (pe_tup pa_nil) pa_nil)) (pa_cons (pe_lst (pa_cons (pe_tup pa_nil) pa_nil)) (pa_cons (pe_tup (pa_cons (pe_tup pa_nil) (pa_cons (pe_tup pa_nil) pa_nil))) (pa_cons (pe_tup (pa_cons (pe_non) pa_nil)) (pa_cons (pe_tup (pa_cons (pe_int) pa_nil)) (pa_cons (pe_lst (pa_cons (pe_int) pa_nil)) pa_nil)))))))))))))))))))))
     (pss_one (ps_ret (pe_op op_cat (pv 0) (pe_lst (pa_cons (pe_disp (pps_cons (pe_int) (pe_int) pps_nil) (by rfl) (by rfl) (fun z => by cases z) (by decide)) (pa_cons (pe_disp (pps_cons (pe_str) (pe_tup pa_nil) pps_nil) (by rfl) (by rfl) (fun z => by cases z) (by decide)) (pa_cons (pe_tup (pa_cons (pe_int) (pa_cons (pe_int) pa_nil))) (pa_cons (pe_tup (pa_cons (pe_bl) pa_nil)) (pa_cons (pe_tup (pa_cons (pe_str) pa_nil)) (pa_cons (pe_tup (pa_cons (pe_tup (pa_cons (pe_int) pa_nil)) pa_nil)) (pa_cons (pe_tup (pa_cons (pe_lst pa_nil) pa_nil)) (pa_cons (pe_tup (pa_cons (pe_int) (pa_cons (pe_int) (pa_cons (pe_int) pa_nil)))) (pa_cons (pe_lst (pa_cons (pe_int) (pa_cons (pe_int) pa_nil))) (pa_cons (pe_op op_pow (pe_int) (pe_int)) (pa_cons (pe_str) pa_nil))))))))))))))), ?_⟩
  have hs : ThD H [] := ThD.nil
  have kh : Ke H H := .refl
  refine ⟨_, rfl, by show 0 ≤ sizeLine; decide, fun p1 np1 => ?_⟩
  replace hs := (hs.new (o := .tup []) np1).cons ((ThD.nil.new np1).tup upd_same)
  replace kh := kh.trans (Ke.new (o := .tup []) np1)
  refine ⟨by show 0 ≤ sizeLine; decide, fun p2 np2 => ?_⟩
  replace hs := (hs.new (o := .lst []) np2).cons (td_lst upd_same)
  replace kh := kh.trans (Ke.new (o := .lst []) np2)
  refine fun p3 np3 => ?_
  replace hs := (hs.new (o := .dK []) np3).cons (td_dic upd_same)
  replace kh := kh.trans (Ke.new (o := .dK []) np3)
  refine ⟨by show 0 ≤ sizeLine; decide, fun p4 np4 => ?_⟩
  replace hs := (hs.new (o := .tup []) np4).cons ((ThD.nil.new np4).tup upd_same)
  replace kh := kh.trans (Ke.new (o := .tup []) np4)
  refine ⟨by show 1 ≤ sizeLine; decide, fun p5 np5 => ?_⟩
  replace hs := (hs.new (o := .tup [.ref p4]) np5).cons (((ThD.cons (hs.all (.ref p4) (by simp)) .nil).new np5).tup upd_same)
  replace kh := kh.trans (Ke.new (o := .tup [.ref p4]) np5)
  refine ⟨by show 0 ≤ sizeLine; decide, fun p6 np6 => ?_⟩
  replace hs := (hs.new (o := .tup []) np6).cons ((ThD.nil.new np6).tup upd_same)
  replace kh := kh.trans (Ke.new (o := .tup []) np6)
  refine ⟨by show 1 ≤ sizeLine; decide, fun p7 np7 => ?_⟩
  replace hs := (hs.new (o := .lst [.ref p6]) np7).cons (td_lst upd_same)
  replace kh := kh.trans (Ke.new (o := .lst [.ref p6]) np7)
  refine ⟨by show 0 ≤ sizeLine; decide, fun p8 np8 => ?_⟩
  replace hs := (hs.new (o := .tup []) np8).cons ((ThD.nil.new np8).tup upd_same)
  replace kh := kh.trans (Ke.new (o := .tup []) np8)
  refine ⟨by show 0 ≤ sizeLine; decide, fun p9 np9 => ?_⟩
  replace hs := (hs.new (o := .tup []) np9).cons ((ThD.nil.new np9).tup upd_same)
  replace kh := kh.trans (Ke.new (o := .tup []) np9)
  refine ⟨by show 2 ≤ sizeLine; decide, fun p10 np10 => ?_⟩
  replace hs := (hs.new (o := .tup [.ref p8, .ref p9]) np10).cons (((ThD.cons (hs.all (.ref p8) (by simp)) (ThD.cons (hs.all (.ref p9) (by simp)) .nil)).new np10).tup upd_same)
  replace kh := kh.trans (Ke.new (o := .tup [.ref p8, .ref p9]) np10)
  refine ⟨by show 1 ≤ sizeLine; decide, fun p11 np11 => ?_⟩
  replace hs := (hs.new (o := .tup [.non]) np11).cons (((ThD.cons td_non .nil).new np11).tup upd_same)
  replace kh := kh.trans (Ke.new (o := .tup [.non]) np11)
  refine ⟨by show 1 ≤ sizeLine; decide, fun p12 np12 => ?_⟩
  replace hs := (hs.new (o := .tup [.int 0]) np12).cons (((ThD.cons (td_int 0) .nil).new np12).tup upd_same)
  replace kh := kh.trans (Ke.new (o := .tup [.int 0]) np12)
  refine ⟨by show 1 ≤ sizeLine; decide, fun p13 np13 => ?_⟩
  replace hs := (hs.new (o := .lst [.int 0]) np13).cons (td_lst upd_same)
  replace kh := kh.trans (Ke.new (o := .lst [.int 0]) np13)
  refine ⟨by show 19 ≤ sizeLine; decide, fun l1 nl1 => ?_⟩
  have h1 := ThD.new (o := .lst [.non, .bl true, .bl false, .int 0, .int 1, .int (-1), .int 7, .str "", .str "0", .str "web", .ref p1, .ref p2, .ref p3, .ref p5, .ref p7, .ref p10, .ref p11, .ref p12, .ref p13]) (ThD.cons td_non (ThD.cons (td_bl true) (ThD.cons (td_bl false) (ThD.cons (td_int 0) (ThD.cons (td_int 1) (ThD.cons (td_int (-1)) (ThD.cons (td_int 7) (ThD.cons (td_str "") (ThD.cons (td_str "0") (ThD.cons (td_str "web") (ThD.cons (hs.all (.ref p1) (by simp)) (ThD.cons (hs.all (.ref p2) (by simp)) (ThD.cons (hs.all (.ref p3) (by simp)) (ThD.cons (hs.all (.ref p5) (by simp)) (ThD.cons (hs.all (.ref p7) (by simp)) (ThD.cons (hs.all (.ref p10) (by simp)) (ThD.cons (hs.all (.ref p11) (by simp)) (ThD.cons (hs.all (.ref p12) (by simp)) (ThD.cons (hs.all (.ref p13) (by simp)) ThD.nil))))))))))))))))))) nl1
  replace hs := hs.new (o := .lst [.non, .bl true, .bl false, .int 0, .int 1, .int (-1), .int 7, .str "", .str "0", .str "web", .ref p1, .ref p2, .ref p3, .ref p5, .ref p7, .ref p10, .ref p11, .ref p12, .ref p13]) nl1
  replace kh := kh.trans (Ke.new (o := .lst [.non, .bl true, .bl false, .int 0, .int 1, .int (-1), .int 7, .str "", .str "0", .str "web", .ref p1, .ref p2, .ref p3, .ref p5, .ref p7, .ref p10, .ref p11, .ref p12, .ref p13]) nl1)
  generalize eG1 : upd _ l1 _ = G1 at *
  have g1 : G1 l1 = some (.lst [.non, .bl true, .bl false, .int 0, .int 1, .int (-1), .int 7, .str "", .str "0", .str "web", .ref p1, .ref p2, .ref p3, .ref p5, .ref p7, .ref p10, .ref p11, .ref p12, .ref p13]) := by rw [← eG1]; exact upd_same
  clear eG1
  refine ⟨_, rfl, ?_⟩
  refine fun d1 nd1 => ⟨upd_same, [(Sum.inl 0, .int 1)], rfl, by decide, ?_⟩
  rw [upd_upd]
  have h2 : ThD (upd G1 d1 (.dK (mergeK [] [(Sum.inl 0, .int 1)]))) [.ref d1] := .cons (td_dic upd_same) .nil
  replace h1 := h1.new (o := .dK (mergeK [] [(Sum.inl 0, .int 1)])) nd1
  replace kh := kh.trans (Ke.new (o := .dK (mergeK [] [(Sum.inl 0, .int 1)])) nd1)
  replace g1 := lst_new (o := .dK (mergeK [] [(Sum.inl 0, .int 1)])) nd1 g1
  generalize upd G1 d1 _ = G2 at *
  refine fun d2 nd2 => ⟨by show 0 ≤ sizeLine; decide, fun p14 np14 => ?_⟩
  have nd14 : d2 ≠ p14 := (upd_none np14).1.symm
  refine ⟨by rw [upd_ne nd14]; exact upd_same, [(Sum.inr "a", .ref p14)], rfl, by show 1 ≤ 15; decide, ?_⟩
  have k2 : Ke G2 (upd (upd (upd G2 d2 (.dK [])) p14 (.tup [])) d2 (.dK (mergeK [] [(Sum.inr "a", .ref p14)]))) := ((Ke.new nd2).trans (Ke.new np14)).over nd2
  replace h2 := (h2.ke k2).cons (td_dic upd_same)
  replace h1 := h1.ke k2
  replace kh := kh.trans k2
  replace g1 := k2.lst g1
  generalize upd (upd (upd G2 d2 _) p14 _) d2 _ = G3 at *
  refine ⟨by show 2 ≤ sizeLine; decide, fun q1 nq1 => ?_⟩
  replace h2 := (h2.new (o := .tup [.int 0, .int 0]) nq1).cons ((ThD.new (o := .tup [.int 0, .int 0]) (ThD.cons (td_int 0) (ThD.cons (td_int 0) ThD.nil)) nq1).tup upd_same)
  replace h1 := h1.new (o := .tup [.int 0, .int 0]) nq1
  replace kh := kh.trans (Ke.new (o := .tup [.int 0, .int 0]) nq1)
  replace g1 := lst_new (o := .tup [.int 0, .int 0]) nq1 g1
  generalize upd G3 q1 _ = G4 at *
  refine ⟨by show 1 ≤ sizeLine; decide, fun q2 nq2 => ?_⟩
  replace h2 := (h2.new (o := .tup [.bl true]) nq2).cons ((ThD.new (o := .tup [.bl true]) (ThD.cons (td_bl true) ThD.nil) nq2).tup upd_same)
  replace h1 := h1.new (o := .tup [.bl true]) nq2
  replace kh := kh.trans (Ke.new (o := .tup [.bl true]) nq2)
  replace g1 := lst_new (o := .tup [.bl true]) nq2 g1
  generalize upd G4 q2 _ = G5 at *
  refine ⟨by show 1 ≤ sizeLine; decide, fun q3 nq3 => ?_⟩
  replace h2 := (h2.new (o := .tup [.str "0"]) nq3).cons ((ThD.new (o := .tup [.str "0"]) (ThD.cons (td_str "0") ThD.nil) nq3).tup upd_same)
  replace h1 := h1.new (o := .tup [.str "0"]) nq3
  replace kh := kh.trans (Ke.new (o := .tup [.str "0"]) nq3)
  replace g1 := lst_new (o := .tup [.str "0"]) nq3 g1
  generalize upd G5 q3 _ = G6 at *
  refine ⟨by show 1 ≤ sizeLine; decide, fun q4 nq4 => ?_⟩
  replace h2 := (h2.new (o := .tup [.int 0]) nq4).cons ((ThD.new (o := .tup [.int 0]) (ThD.cons (td_int 0) ThD.nil) nq4).tup upd_same)
  replace h1 := h1.new (o := .tup [.int 0]) nq4
  replace kh := kh.trans (Ke.new (o := .tup [.int 0]) nq4)
  replace g1 := lst_new (o := .tup [.int 0]) nq4 g1
  generalize upd G6 q4 _ = G7 at *
  refine ⟨by show 1 ≤ sizeLine; decide, fun q5 nq5 => ?_⟩
  replace h2 := (h2.new (o := .tup [.ref q4]) nq5).cons ((ThD.new (o := .tup [.ref q4]) (ThD.cons (h2.all (.ref q4) (by simp)) ThD.nil) nq5).tup upd_same)
  replace h1 := h1.new (o := .tup [.ref q4]) nq5
  replace kh := kh.trans (Ke.new (o := .tup [.ref q4]) nq5)
  replace g1 := lst_new (o := .tup [.ref q4]) nq5 g1
  generalize upd G7 q5 _ = G8 at *
  refine ⟨by show 0 ≤ sizeLine; decide, fun q6 nq6 => ?_⟩
  replace h2 := (h2.new (o := .lst []) nq6).cons (td_lst upd_same)
  replace h1 := h1.new (o := .lst []) nq6
  replace kh := kh.trans (Ke.new (o := .lst []) nq6)
  replace g1 := lst_new (o := .lst []) nq6 g1
  generalize upd G8 q6 _ = G9 at *
  refine ⟨by show 1 ≤ sizeLine; decide, fun q7 nq7 => ?_⟩
  replace h2 := (h2.new (o := .tup [.ref q6]) nq7).cons ((ThD.new (o := .tup [.ref q6]) (ThD.cons (h2.all (.ref q6) (by simp)) ThD.nil) nq7).tup upd_same)
  replace h1 := h1.new (o := .tup [.ref q6]) nq7
  replace kh := kh.trans (Ke.new (o := .tup [.ref q6]) nq7)
  replace g1 := lst_new (o := .tup [.ref q6]) nq7 g1
  generalize upd G9 q7 _ = G10 at *
  refine ⟨by show 3 ≤ sizeLine; decide, fun q8 nq8 => ?_⟩
  replace h2 := (h2.new (o := .tup [.int 0, .int 1, .int 2]) nq8).cons ((ThD.new (o := .tup [.int 0, .int 1, .int 2]) (ThD.cons (td_int 0) (ThD.cons (td_int 1) (ThD.cons (td_int 2) ThD.nil))) nq8).tup upd_same)
  replace h1 := h1.new (o := .tup [.int 0, .int 1, .int 2]) nq8
  replace kh := kh.trans (Ke.new (o := .tup [.int 0, .int 1, .int 2]) nq8)
  replace g1 := lst_new (o := .tup [.int 0, .int 1, .int 2]) nq8 g1
  generalize upd G10 q8 _ = G11 at *
  refine ⟨by show 2 ≤ sizeLine; decide, fun q9 nq9 => ?_⟩
  replace h2 := (h2.new (o := .lst [.int 0, .int 1]) nq9).cons (td_lst upd_same)
  replace h1 := h1.new (o := .lst [.int 0, .int 1]) nq9
  replace kh := kh.trans (Ke.new (o := .lst [.int 0, .int 1]) nq9)
  replace g1 := lst_new (o := .lst [.int 0, .int 1]) nq9 g1
  generalize upd G11 q9 _ = G12 at *
  refine ⟨_, _, rfl, rfl, ⟨by decide, by decide, by decide⟩, by show 11 ≤ sizeLine; decide, fun l2 nl2 => ?_⟩
  have h3 := ThD.new (o := .lst [.ref d1, .ref d2, .ref q1, .ref q2, .ref q3, .ref q5, .ref q7, .ref q8, .ref q9, .int (10 ^ (30 : Int).toNat), .str "()"]) (ThD.cons (h2.all (.ref d1) (by simp)) (ThD.cons (h2.all (.ref d2) (by simp)) (ThD.cons (h2.all (.ref q1) (by simp)) (ThD.cons (h2.all (.ref q2) (by simp)) (ThD.cons (h2.all (.ref q3) (by simp)) (ThD.cons (h2.all (.ref q5) (by simp)) (ThD.cons (h2.all (.ref q7) (by simp)) (ThD.cons (h2.all (.ref q8) (by simp)) (ThD.cons (h2.all (.ref q9) (by simp)) (ThD.cons (td_int (10 ^ (30 : Int).toNat)) (ThD.cons (td_str "()") ThD.nil))))))))))) nl2
  replace h1 := h1.new (o := .lst [.ref d1, .ref d2, .ref q1, .ref q2, .ref q3, .ref q5, .ref q7, .ref q8, .ref q9, .int (10 ^ (30 : Int).toNat), .str "()"]) nl2
  refine ⟨l1, l2, _, _, rfl, rfl, lst_new nl2 g1, upd_same, (by show 30 ≤ sizeLine; decide), fun l3 nl3 => ?_⟩
  exact q _ l3 _ ((kh.trans (Ke.new nl2)).trans (Ke.new nl3)) ((kh.trans (Ke.new nl2)).dom _ nl3) upd_same ((h1.app h3).new nl3) (by show 30 ≤ 100; decide) (by show 0 < 30; decide)
theorem ok__law_lots {P : Program} {w : World} {K : PySem.W.Frag} {mg : Str → Option Value} {base : Heap} {tb : List Addr} {lt : List (Addr × Str)} {f : Addr} {fd : FuncData} (T : Blt mg) (D__law_lots : DefAt K mg "_law_lots" s_law_lots ["_law_points"] f fd) (LO : LtOk lt) :
    FnOk P w K mg base CX0 1 f fd ["_law_points"] (sp__law_lots K tb) := by
  refine D__law_lots.ok sc__law_lots (fun vs H Q E h => by
    obtain ⟨n, rfl, hn, q⟩ := h
    all_goals rfl) fun A outer s H vs Q E hr h => ?_
  obtain ⟨n, rfl, hn, q⟩ := h
  refine ⟨_, pss_cons (ps_set (i := 1) sc__law_lots.nd rfl (.inl rfl) (pe_lst (pa_cons (pe_lst pa_nil) pa_nil)))
     (pss_cons (ps_for PassesOwn.never rfl (pi_range1 (by rfl) T.b_range (pa_cons (pv 0) pa_nil)) (pg_name (i := 2) sc__law_lots.nd rfl (.inr rfl))
     (pss_one (ps_set (i := 1) sc__law_lots.nd rfl (.inl rfl) (pe_op op_cat (pv 1) (pe_lc (own := [("_law_lot_here", 3)]) rfl sc__law_lots.nd (pi_list (pv 1)) (blkOk_by (own := [("_law_lot_here", 3)]) (N := nm__law_lots) (sc := defScope s_law_lots) (by decide +kernel)) (fun _ _ _ _ _ => pg_name (i := 3) sc__law_lots.nd rfl (.inl rfl)) (fun _ _ _ _ _ => pts_nil) (fun _ _ _ _ _ => pe_op op_cat (pv 3) (pe_lst (pa_cons (pv 2) pa_nil))))))))
     (pss_one (ps_ret (pe_lc (own := [("_law_lot_here", 3)]) rfl sc__law_lots.nd (pi_list (pv 1)) (blkOk_by (own := [("_law_lot_here", 3)]) (N := nm__law_lots) (sc := defScope s_law_lots) (by decide +kernel)) (fun _ _ _ _ _ => pg_name (i := 3) sc__law_lots.nd rfl (.inl rfl)) (fun _ _ _ _ _ => pts_one (pt_cmpR (neDK (K := K) hr.units) (pv 3) (pe_lst pa_nil) (nomark _))) (fun _ _ _ _ _ => pe_callTy (tupleK (K := K)) (by rfl) T.b_tuple (by decide +kernel) (pa_cons (pv 3) pa_nil)))))), ?_⟩
  have LB := line_big
  have B12 : ∀ i : Nat, i ≤ 12 → (lotsF i).length ≤ 4096 := fun i hi => by
    rw [lotsF_len]
    exact Nat.pow_le_pow_right (by decide) hi
  refine ⟨by show 0 ≤ sizeLine; decide, fun z nz => ⟨by show 1 ≤ sizeLine; decide, fun F0 nF0 => ?_⟩⟩
  refine ⟨_, rfl, n, rfl, by omega, by omega, ?_⟩
  refine for_range (lo := 0) (n := n) (fun i σ G => ∃ (F : Addr) (rs : List V) (y2 y3 : Option V), σ = [some (.int n), some (.ref F), y2, y3] ∧ Ke H G ∧ G F = some (.lst rs) ∧ LsL G rs (lotsF i)) ?_ (fun i σ G hi hG => ?_) (fun σ G hG => ?_)
  · exact ⟨F0, _, _, _, rfl, (Ke.new nz).trans (Ke.new nF0), upd_same, LsL.one (ls := []) (lst_new nF0 upd_same)⟩
  · obtain ⟨F, rs, y2, y3, rfl, kG, gF, gL⟩ := hG
    rw [Int.zero_add]
    have hrl := gL.length
    have hb := B12 i (by omega)
    refine ⟨_, rfl, _, rfl, F, rfl, ⟨_, sqL_of gF⟩, fun D hD => ?_⟩
    refine lc_list (K := K) (a := F) (xs := rs) (fun j G2 => ∃ qs, Ke G G2 ∧ G2 D = some (.lst qs) ∧ LsL G2 qs (((lotsF i).take j).map fun l => l ++ [(i : Int)]) ∧ V.ref D ∉ qs) ⟨[], Ke.new hD, upd_same, .nil, fun z => nomatch z⟩ (fun j G2 _ hG2 => ?_) (fun j r G2 hr hG2 => ?_) (fun G2 hG2 => ?_)
    · obtain ⟨_, k2, _⟩ := hG2
      exact sqL_of (k2.lst gF)
    · obtain ⟨qs, k2, gD, g2, hn2⟩ := hG2
      obtain ⟨ls, q0, hj, rfl, hq0⟩ := gL.get hr
      have hql : qs.length ≤ 4096 := by
        rw [g2.length, List.length_map, List.length_take]
        omega
      have hll : ls.length ≤ 12 := by
        have := (lotsF_ok i ls (List.mem_of_getElem? hj)).2.2
        omega
      refine ⟨rfl, yes_ite ?_⟩
      refine ⟨_, rfl, _, rfl, by show 1 ≤ sizeLine; decide, fun b nb => ?_⟩
      refine ⟨q0, b, _, _, rfl, rfl, lst_new nb (k2.lst hq0), upd_same, by rw [List.length_map]; show ls.length + 1 ≤ sizeLine; omega, fun c nc => ?_⟩
      have kc := (k2.trans (Ke.new (o := .lst [.int (i : Int)]) nb)).trans (Ke.new (o := .lst (ls.map V.int ++ [.int (i : Int)])) nc)
      have kc2 := (Ke.new (S := fun _ => False) (o := .lst [.int (i : Int)]) nb).trans (Ke.new (o := .lst (ls.map V.int ++ [.int (i : Int)])) nc)
      have gD2 := Ke.lst kc2 gD
      have cD : c ≠ D := fun z => by rw [z, lst_new nb gD] at nc; cases nc
      refine ⟨qs, gD2, by omega, qs ++ [.ref c], kc.over hD, upd_same, ?_, ?_⟩
      · rw [take_next hj, List.map_append]
        refine LsL.put ((g2.ke kc2).append (LsL.one (ls := ls ++ [(i : Int)]) ?_)) ?_
        · rw [List.map_append]
          exact upd_same
        · intro z
          rcases List.mem_append.mp z with z | z
          · exact hn2 z
          · exact cD (V.ref.inj (List.mem_singleton.mp z)).symm
      · intro z
        rcases List.mem_append.mp z with z | z
        · exact hn2 z
        · exact cD (V.ref.inj (List.mem_singleton.mp z)).symm
    · obtain ⟨qs, k2, gD, g2, _⟩ := hG2
      rw [hrl, List.take_length] at g2
      have hql := g2.length
      rw [List.length_map] at hql
      refine ⟨F, D, _, _, rfl, rfl, k2.lst gF, gD, by omega, fun p np => ?_⟩
      exact ⟨p, _, _, _, rfl, (kG.trans k2).trans (Ke.new np), upd_same, ((gL.ke k2).append g2).ke (Ke.new np)⟩
  · obtain ⟨F, rs, y2, y3, rfl, kG, gF, gL⟩ := hG
    have hrl := gL.length
    have hb := B12 n hn
    refine ⟨_, rfl, F, rfl, ⟨_, sqL_of gF⟩, fun D hD => ?_⟩
    refine lc_list (K := K) (a := F) (xs := rs) (fun j G2 => ∃ qs, Ke G G2 ∧ G2 D = some (.lst qs) ∧ Lots G2 qs (((lotsF n).take j).filter fun l => !l.isEmpty)) ⟨[], Ke.new hD, upd_same, .nil⟩ (fun j G2 _ hG2 => ?_) (fun j r G2 hr hG2 => ?_) (fun G2 hG2 => ?_)
    · obtain ⟨_, k2, _⟩ := hG2
      exact sqL_of (k2.lst gF)
    · obtain ⟨qs, k2, gD, g2⟩ := hG2
      obtain ⟨ls, q0, hj, rfl, hq0⟩ := gL.get hr
      have hql : qs.length ≤ 4096 := by
        rw [g2.length]
        refine Nat.le_trans (List.length_filter_le _ _) ?_
        rw [List.length_take]
        omega
      have hs : ((lotsF n).take (j + 1)).filter (fun l => !l.isEmpty) = ((lotsF n).take j).filter (fun l => !l.isEmpty) ++ if (!ls.isEmpty) = true then [ls] else [] := by
        rw [take_next hj, List.filter_append, List.filter_cons]
        rfl
      refine ⟨rfl, _, rfl, by show 0 ≤ sizeLine; decide, fun z nz => ?_⟩
      have hq1 := lst_new (o := .lst []) nz (k2.lst hq0)
      refine ⟨.list (ls.map .int), .list [], .lst (sqL_of hq1) (dp_ints ls), .lst (sqL_of upd_same) .nil, PySem.W.shaped_ints ls, PySem.W.shaped_ints [], _, rfl, ?_⟩
      rw [eqv_list0, List.isEmpty_map]
      refine iteB (fun hb => ?_) (fun hb => ?_)
      · have hb : (!ls.isEmpty) = true := hb
        rw [if_pos hb] at hs
        refine ⟨_, rfl, q0, _, rfl, .inl ⟨sqL_of hq1, fun c nc => ?_⟩⟩
        have kc2 := (Ke.new (S := fun _ => False) (o := .lst []) nz).trans (Ke.new (o := .tup (ls.map V.int)) nc)
        refine ⟨qs, Ke.lst kc2 gD, by omega, qs ++ [.ref c], (k2.trans kc2).over hD, upd_same, ?_⟩
        rw [hs]
        exact ((g2.ke kc2).append (Lots.one upd_same)).put (Ke.lst kc2 gD)
      · have hb : (!ls.isEmpty) = false := hb
        rw [if_neg (by rw [hb]; decide), List.append_nil] at hs
        refine ⟨qs, k2.trans (Ke.new nz), lst_new nz gD, ?_⟩
        rw [hs]
        exact g2.new nz
    · obtain ⟨qs, k2, gD, g2⟩ := hG2
      rw [hrl, List.take_length] at g2
      exact q _ D qs (kG.trans k2) (kG.dom _ hD) gD g2
theorem ok__law_can {P : Program} {w : World} {K : PySem.W.Frag} {mg : Str → Option Value} {base : Heap} {tb : List Addr} {lt : List (Addr × Str)} {f : Addr} {fd : FuncData} {f__law_lots : Addr} {fd__law_lots : FuncData} (T : Blt mg) (D__law_can : DefAt K mg "_law_can" s_law_can ["_law_points", "_law_ties", "_law_k"] f fd) (LO : LtOk lt) (D__law_lots : DefAt K mg "_law_lots" s_law_lots ["_law_points"] f__law_lots fd__law_lots) (G__law_lots : FnOk P w K mg base CX0 1 f__law_lots fd__law_lots ["_law_points"] (sp__law_lots K tb)) :
    FnOk P w K mg base CX0 2 f fd ["_law_points", "_law_ties", "_law_k"] (sp__law_can K tb) := by
  refine D__law_can.ok sc__law_can (fun vs H Q E h => by
    obtain ⟨n, l, ts, k, rfl, hl, hn1, hlen, hk0, hk1, q⟩ := h
    all_goals rfl) fun A outer s H vs Q E hr h => ?_
  obtain ⟨n, l, ts, k, rfl, hl, hn1, hlen, hk0, hk1, q⟩ := h
  refine ⟨_, pss_cons (ps_for PassesOwn.never rfl (pi_list (pe_call G__law_lots (hr.mono (by decide)) (by rfl) D__law_lots.g D__law_lots.F.kp D__law_lots.b .nil pass0 (pa_cons (pv 0) pa_nil))) (pg_name (i := 3) sc__law_can.nd rfl (.inr rfl))
     (pss_one (ps_if (pt_cmpR op_gt (pe_callB (lenK (K := K)) (by rfl) T.b_len PySem.boot_len (pa_cons (pe_lc (own := [("_law_a", 4), ("_law_b", 5)]) rfl sc__law_can.nd (pi_list (pv 1)) (blkOk_by (own := [("_law_a", 4), ("_law_b", 5)]) (N := nm__law_can) (sc := defScope s_law_can) (by decide +kernel)) (fun _ _ _ _ _ => tgtK (K := K) (n := 2) (pgs_cons (pg_name (i := 4) sc__law_can.nd rfl (.inl rfl)) (pgs_cons (pg_name (i := 5) sc__law_can.nd rfl (.inl rfl)) pgs_nil))) (fun _ _ _ _ _ => pts_one (PW.pt (pw_and (pt_cmpR (in_seqK (K := K)) (pv 4) (pv 3) (by rfl)) (pw_and1 (pt_cmpR (in_seqK (K := K)) (pv 5) (pv 3) (by rfl)))))) (fun _ _ _ _ _ => pe_int)) pa_nil)) (pe_op op_mul (pv 2) (pe_op op_sub (pe_callB (lenK (K := K)) (by rfl) T.b_len PySem.boot_len (pa_cons (pv 3) pa_nil)) (pe_int))) (nomark _))
     (pss_one (ps_ret (pe_bl)))
     (pss_nil))))
     (pss_one (ps_ret (pe_bl))), ?_⟩
  have LB := line_big
  obtain ⟨rs, hl, hT⟩ := hl
  have hrl := hT.length
  refine ⟨_, rfl, n, rfl, hn1, fun H1 lt qs k1 nlt hlt hL => ?_⟩
  have hl1 := k1.lst hl
  refine ⟨lt, rfl, ⟨_, sqL_of hlt⟩, ?_⟩
  refine for_list (K := K) (a := lt) (xs := qs) (fun j σ G => ∃ (y3 y4 y5 : Option V), σ = [some (.int (n : Int)), some (.ref l), some (.int k), y3, y4, y5] ∧ Ke H1 G ∧ ∀ l ∈ (((lotsF n).filter fun l => !l.isEmpty).take j), (inside l ts : Int) ≤ k * ((l.length : Int) - 1)) ⟨_, _, _, rfl, .refl, fun _ z => nomatch z⟩ (fun j σ G _ hG => ?_) (fun j x σ G hx hG => ?_) (fun σ G hG => ?_)
  · obtain ⟨_, _, _, _, kG, _⟩ := hG
    exact sqL_of (kG.lst hlt)
  · obtain ⟨y3, y4, y5, rfl, kG, hall⟩ := hG
    obtain ⟨lot, c, hlot, rfl, hc⟩ := hL.get hx
    have hcG := kG.tup hc
    have hlG := kG.lst hl1
    have hTG := (hT.ke k1).ke kG
    obtain ⟨o1, o2, o3⟩ := lotsF_ok n lot (List.mem_filter.mp (List.mem_of_getElem? hlot)).1
    refine ⟨_, rfl, l, rfl, ⟨_, sqL_of hlG⟩, fun D hD => ?_⟩
    refine lc_list (K := K) (a := l) (xs := rs) (fun i G1 => Ke G G1 ∧ ∃ acc : List V, G1 D = some (.lst acc) ∧ acc.length = inside lot (ts.take i)) ⟨Ke.new hD, [], upd_same, by simp [inside]⟩ (fun i G1 _ hG => sqL_of (hG.1.lst hlG)) (fun i r G1 hr hG => ?_) (fun G1 hG => ?_)
    · obtain ⟨k2, acc, gD, hacc⟩ := hG
      obtain ⟨⟨x, y⟩, r', hti, rfl, hr'⟩ := hTG.get hr
      have hs := inside_take (ls := lot) hti
      dsimp only at hs
      have h1 := inside_le lot (ts.take i)
      have h3 : (ts.take i).length ≤ ts.length := List.length_take_le' i ts
      have hc2 := k2.tup hcG
      refine ⟨r', _, rfl, sqT_of (k2.tup hr'), rfl, _, _, rfl, _, [], rfl, rfl, rfl, ?_⟩
      refine ⟨_, rfl, _, rfl, c, _, rfl, .inr (sqT_of hc2), rfl, flat_ints lot, _, rfl, ?_⟩
      rw [inV_int]
      refine iteB (fun (e1 : decide (x ∈ lot) = true) => ?_) (fun (e1 : decide (x ∈ lot) = false) => ?_)
      · refine ⟨_, rfl, _, rfl, c, _, rfl, .inr (sqT_of hc2), rfl, flat_ints lot, _, rfl, ?_⟩
        rw [inV_int]
        refine iteB (fun (e2 : decide (y ∈ lot) = true) => ?_) (fun (e2 : decide (y ∈ lot) = false) => ?_)
        · refine ⟨acc, gD, by omega, k2.over hD, acc ++ [.int 1], upd_same, ?_⟩
          rw [List.length_append, hacc, hs, e1, e2]
          rfl
        · refine ⟨k2, acc, gD, ?_⟩
          rw [hs, e1, e2]
          exact hacc
      · refine ⟨k2, acc, gD, ?_⟩
        rw [hs, e1]
        exact hacc
    · obtain ⟨k2, acc, gD, hacc⟩ := hG
      rw [hT.length, List.take_length] at hacc
      refine ⟨D, _, rfl, .inl (sqL_of gD), _, rfl, _, rfl, c, _, rfl, .inr (sqT_of (k2.tup hcG)), _, _, rfl, rfl, _, _, rfl, rfl, .inl ⟨by omega, by omega⟩, _, _, rfl, rfl, _, rfl, ?_⟩
      rw [hacc, List.length_map]
      refine iteB (fun hb => ?_) (fun hb => ?_)
      · have hb : (inside lot ts : Int) > k * ((lot.length : Int) - 1) := of_decide_eq_true hb
        have q0 := q _ (k1.trans (kG.trans k2))
        have e : canF n ts k = false := by
          cases e : canF n ts k with
          | false => rfl
          | true =>
            unfold canF at e
            rw [List.all_eq_true] at e
            have := of_decide_eq_true (e lot (List.mem_of_getElem? hlot))
            omega
        rw [e] at q0
        exact q0
      · have hb : ¬ (inside lot ts : Int) > k * ((lot.length : Int) - 1) := of_decide_eq_false hb
        refine ⟨_, _, _, rfl, kG.trans k2, fun l hl => ?_⟩
        rw [take_next hlot] at hl
        rcases List.mem_append.mp hl with hl | hl
        · exact hall l hl
        · rw [List.mem_singleton.mp hl]
          omega
  · obtain ⟨y3, y4, y5, rfl, kG, hall⟩ := hG
    rw [hL.length, List.take_length] at hall
    have q0 := q _ (k1.trans kG)
    have e : canF n ts k = true := by
      unfold canF
      rw [List.all_eq_true]
      exact fun l hl => decide_eq_true (hall l hl)
    rw [e] at q0
    exact q0
theorem ok__law_order {P : Program} {w : World} {K : PySem.W.Frag} {mg : Str → Option Value} {base : Heap} {tb : List Addr} {lt : List (Addr × Str)} {f : Addr} {fd : FuncData} (T : Blt mg) (D__law_order : DefAt K mg "_law_order" s_law_order ["_law_prices_here"] f fd) (LO : LtOk lt) {c Pt : Addr} (TB : LamX.TabB base mg c Pt) (hcd : fd.code = .ref c) (hPl : (Pt, ("_law_order" : Str) ++ ".<locals>." ++ "<lambda>") ∈ lt) :
    FnOk P w K mg base CX0 4 f fd ["_law_prices_here"] (sp__law_order K tb lt) := by
  refine D__law_order.ok sc__law_order (fun vs H Q E h => by
    obtain ⟨v, ps, m, rfl, hP, hm, hLT, q⟩ := h
    all_goals rfl) fun A outer s H vs Q E hr h => ?_
  obtain ⟨v, ps, m, rfl, hP, hm, hLT, q⟩ := h
  refine ⟨_, pss_one (ps_ret (pe_skL (K := K) (lt := lt) (k := 0) rfl (hr.mono (by decide)) (by rfl) T.b_sorted LO TB hcd hPl (lamP_by (XN := nm__law_order) (xsc := defScope s_law_order) (N := ["_law_prices_here", "_law_tie_here"]) (src := [0]) (p := "_law_tie_here") (by decide +kernel)) rfl (fun _ _ _ _ _ _ => rfl) (pe_listRg rfl (by rfl) T.b_list (prg_1 (by rfl) T.b_range (pe_callB (lenK (K := K)) (by rfl) T.b_len PySem.boot_len (pa_cons (pv 0) pa_nil)))) (fun _ _ _ _ _ _ hz => pe_tup (pa_cons (pe_ix (ix_tupK (K := K)) (pv 0) (pv 1) (fun _ _ => rfl)) (pa_cons (pv 1) pa_nil))))), ?_⟩
  have LB := line_big
  obtain ⟨⟨a, rfl, ha⟩, hpl⟩ := id hP
  refine ⟨_, rfl, a, _, rfl, .inr (sqT_of ha), _, rfl, ?_⟩
  rw [List.length_map]
  refine ⟨⟨by omega, by omega, by omega, by omega, by omega⟩, fun e ne => ?_⟩
  have eup : rgV 0 ((ps.length : Nat) : Int) = ((List.range ps.length).map fun (i : Nat) => (0 : Int) + (i : Nat)).map V.int := by
    unfold rgV
    rw [show (((ps.length : Nat) : Int) - 0).toNat = ps.length by omega, List.map_map]
    rfl
  rw [eup]
  have k1 := Ke.new (S := fun _ => False) (o := .lst (((List.range ps.length).map fun (i : Nat) => (0 : Int) + (i : Nat)).map V.int)) ne
  have hL1 := hLT.ke LO k1
  have ha1 := Ke.tup k1 ha
  refine ⟨e, _, rfl, sqL_of upd_same, kdP ps, kdP_fn ps, by rw [List.length_map, List.length_range]; omega, hL1, fun H2 k2 hL2 => ⟨fun m' hm' G kG => ?_, fun G q' kG nq => ?_⟩⟩
  · obtain ⟨j, hj, rfl⟩ := List.mem_map.mp hm'
    have hj := List.mem_range.mp hj
    have ha2 := kG.tup (k2.tup' hL1 _ _ ha1)
    refine ⟨_, rfl, _, rfl, a, _, 0 + (j : Int), _, rfl, rfl, sqT_of ha2, hat_at (by omega) (by omega), _, rfl, by show 2 ≤ sizeLine; decide, fun p np => ⟨Ke.new np, .inr ⟨_, _, p, rfl, rfl, upd_same⟩⟩⟩
  · have eo : (((List.range ps.length).map fun (i : Nat) => (0 : Int) + (i : Nat)).mergeSort (PySem.W.dataLe false (kdP ps))) = ordI ps := rfl
    rw [eo, ordI_cast, List.map_map]
    have kk : Kl lt H (upd G q' (.lst ((ordN ps).map (V.int ∘ fun (i : Nat) => (i : Int))))) := (Ke.to k1).trans (k2.trans (Ke.to (kG.trans (Ke.new nq))))
    have hLq := hL2.ke LO (kG.trans (Ke.new (o := .lst ((ordN ps).map (V.int ∘ fun (i : Nat) => (i : Int)))) nq))
    exact q _ q' kk hLq (((Ke.to k1 : Kl lt H _).trans (k2.trans (Ke.to kG))).dom _ nq) upd_same
theorem ok__law_cheapest {P : Program} {w : World} {K : PySem.W.Frag} {mg : Str → Option Value} {base : Heap} {tb : List Addr} {lt : List (Addr × Str)} {f : Addr} {fd : FuncData} {f__law_can : Addr} {fd__law_can : FuncData} {f__law_order : Addr} {fd__law_order : FuncData} (T : Blt mg) (D__law_cheapest : DefAt K mg "_law_cheapest" s_law_cheapest ["_law_web_here", "_law_k", "_law_prices_here"] f fd) (LO : LtOk lt) (D__law_can : DefAt K mg "_law_can" s_law_can ["_law_points", "_law_ties", "_law_k"] f__law_can fd__law_can) (G__law_can : FnOk P w K mg base CX0 2 f__law_can fd__law_can ["_law_points", "_law_ties", "_law_k"] (sp__law_can K tb)) (D__law_order : DefAt K mg "_law_order" s_law_order ["_law_prices_here"] f__law_order fd__law_order) (G__law_order : FnOk P w K mg base CX0 4 f__law_order fd__law_order ["_law_prices_here"] (sp__law_order K tb lt)) :
    FnOk P w K mg base CX0 5 f fd ["_law_web_here", "_law_k", "_law_prices_here"] (sp__law_cheapest K tb lt) := by
  refine D__law_cheapest.ok sc__law_cheapest (fun vs H Q E h => by
    obtain ⟨v, n, ts, k, pr, ps, rfl, W, hP, hok, hn, hlen, hk0, hk1, hLT, q⟩ := h
    all_goals rfl) fun A outer s H vs Q E hr h => ?_
  obtain ⟨v, n, ts, k, pr, ps, rfl, W, hP, hok, hn, hlen, hk0, hk1, hLT, q⟩ := h
  refine ⟨_, pss_cons (ps_set (i := 3) sc__law_cheapest.nd rfl (.inl rfl) (pe_lst pa_nil))
     (pss_cons (ps_for PassesOwn.never rfl (pi_list (pe_call G__law_order (hr.mono (by decide)) (by rfl) D__law_order.g D__law_order.F.kp D__law_order.b .nil pass0 (pa_cons (pv 2) pa_nil))) (pg_name (i := 4) sc__law_cheapest.nd rfl (.inl rfl))
     (pss_one (ps_if (pt_val (pe_call G__law_can (hr.mono (by decide)) (by rfl) D__law_can.g D__law_can.F.kp D__law_can.b .nil pass0 (pa_cons (pe_ix (ix_tupK (K := K)) (pv 0) (pe_int) (fun _ _ => rfl)) (pa_cons (pe_lc (own := [("_law_one", 5)]) rfl sc__law_cheapest.nd (pi_list (pe_op op_cat (pv 3) (pe_lst (pa_cons (pv 4) pa_nil)))) (blkOk_by (own := [("_law_one", 5)]) (N := nm__law_cheapest) (sc := defScope s_law_cheapest) (by decide +kernel)) (fun _ _ _ _ _ => pg_name (i := 5) sc__law_cheapest.nd rfl (.inl rfl)) (fun _ _ _ _ _ => pts_nil) (fun _ _ _ _ _ => pe_ix (ix_tupK (K := K)) (pe_ix (ix_tupK (K := K)) (pv 0) (pe_int) (fun _ _ => rfl)) (pv 5) (fun _ _ => rfl))) (pa_cons (pv 1) pa_nil)))))
     (pss_one (ps_expr (pe_bm PySem.F.plainAttrs_list PySem.F.slot_list_append PySem.F.type_list_append mt_append (pv 3) (pa_cons (pv 4) pa_nil))))
     (pss_nil))))
     (pss_one (ps_ret (pe_callB (sortedK (K := K)) (by rfl) T.b_sorted (by decide +kernel) (pa_cons (pv 3) pa_nil))))), ?_⟩
  have LB := line_big
  obtain ⟨tw, w0, rs, rfl, htw, hw0, hT⟩ := id W
  have hpl := hP.len
  refine ⟨by show 0 ≤ sizeLine; decide, fun f nf => ?_⟩
  have k1 := Ke.new (S := fun _ => False) (o := .lst []) nf
  have gf1 : (upd H f (.lst [])) f = some (.lst (nV [])) := upd_same
  have hL1 := hLT.ke LO k1
  have hP1 := hP.ke k1
  generalize upd H f (.lst []) = H1 at *
  refine ⟨_, rfl, pr, ps, ts.length, rfl, hP1, hlen, hL1, fun H2 l k2 hL2 nl gl => ?_⟩
  have gf2 := k2.lst' hL1 gf1
  have lf : l ≠ f := (ne_of_none gf1 nl).symm
  have nl0 : H l = none := k1.dom _ nl
  refine ⟨l, rfl, ⟨_, sqL_of gl⟩, ?_⟩
  refine for_list (K := K) (a := l) (xs := nV (ordN ps)) (fun i σ G => ∃ (y4 y5 : Option V) (S : List Nat), σ = [some (.ref tw), some (.int k), some pr, some (.ref f), y4, y5] ∧ Kl lt H G ∧ LTabs lt G ∧ G f = some (.lst (nV S)) ∧ G l = some (.lst (nV (ordN ps))) ∧ greF n ts k S ((ordN ps).drop i) = greF n ts k [] (ordN ps) ∧ S.Sublist ((ordN ps).take i)) ⟨_, _, [], rfl, (Ke.to k1).trans k2, hL2, gf2, gl, rfl, List.nil_sublist _⟩ (fun i σ G _ hG => ?_) (fun i x σ G hx hG => ?_) (fun σ G hG => ?_)
  · obtain ⟨_, _, _, _, _, _, _, g, _⟩ := hG
    exact sqL_of g
  · obtain ⟨y4, y5, S, rfl, kG, hLG, gf, gl, hgr, hsub⟩ := hG
    obtain ⟨t, ht, rfl⟩ := nV_at hx
    rw [drop_at ht] at hgr
    have htl : t < ts.length := by
      have := ordN_mem.mp (List.mem_of_getElem? ht)
      omega
    have hSl : S.length ≤ ts.length := by
      have h1 := hsub.length_le
      have h2 := List.length_take_le' i (ordN ps)
      have h3 := ordN_len ps
      omega
    have htwG := kG.tup' hLT _ _ htw
    have hw0G := kG.tup' hLT _ _ hw0
    have hTG : Ties G rs ts := hT.mono (kG.tup' hLT)
    refine ⟨_, rfl, tw, _, 0, _, rfl, rfl, sqT_of htwG, atI_nat (j := 0) rfl, ?_⟩
    refine ⟨_, rfl, _, rfl, by show 1 ≤ sizeLine; decide, fun m nm => ?_⟩
    have ka := Ke.new (S := fun _ => False) (o := .lst [.int (t : Int)]) nm
    have gf4 := lst_new (o := .lst [.int (t : Int)]) nm gf
    have gm : (upd G m (.lst [.int (t : Int)])) m = some (.lst [.int (t : Int)]) := upd_same
    generalize upd G m (.lst [.int (t : Int)]) = G4 at *
    refine ⟨f, m, _, _, rfl, rfl, gf4, gm, by rw [List.length_map]; show S.length + 1 ≤ sizeLine; omega, fun c nc => ?_⟩
    have ec : nV S ++ [V.int (t : Int)] = nV (S ++ [t]) := (nV_snoc S t).symm
    have kb := ka.trans (Ke.new (o := .lst (nV S ++ [V.int (t : Int)])) nc)
    have gc : (upd G4 c (.lst (nV S ++ [V.int (t : Int)]))) c = some (.lst (nV (S ++ [t]))) := by rw [upd_same, ec]
    have gf5 := lst_new (o := .lst (nV S ++ [V.int (t : Int)])) nc gf4
    generalize upd G4 c (.lst (nV S ++ [V.int (t : Int)])) = G5 at *
    have htw5 := Ke.tup kb htwG
    have hw05 := Ke.tup kb hw0G
    have hT5 : Ties G5 rs ts := hTG.ke kb
    have hrg : ∀ i ∈ S ++ [t], i < ts.length := fun j hj => by
      rcases List.mem_append.mp hj with z | z
      · have := ordN_mem.mp ((List.take_sublist i (ordN ps)).subset (hsub.subset z))
        omega
      · rw [List.mem_singleton.mp z]
        exact htl
    refine ⟨c, rfl, ⟨_, sqL_of gc⟩, fun D hD => ?_⟩
    refine lc_list (K := K) (a := c) (xs := nV (S ++ [t])) (fun j G => ∃ qs, Ke G5 G ∧ G D = some (.lst qs) ∧ Ties G qs (tsN ts ((S ++ [t]).take j))) ⟨[], Ke.new hD, upd_same, .nil⟩ (fun j G _ hG => ?_) (fun j x G hx hG => ?_) (fun G6 hG => ?_)
    · obtain ⟨_, kG, _⟩ := hG
      exact sqL_of (kG.lst gc)
    · obtain ⟨qs, kG, gD, gT⟩ := hG
      obtain ⟨i', hi', rfl⟩ := nV_at hx
      obtain ⟨q', he, hq'⟩ := tsN_at hT5 (hrg i' (List.mem_of_getElem? hi'))
      have hjl := (List.getElem?_eq_some_iff.mp hx).1
      rw [List.length_map, List.length_append] at hjl
      have hjl : j < S.length + 1 := hjl
      refine ⟨rfl, yes_ite ⟨_, rfl, tw, _, 1, _, rfl, rfl, sqT_of (kG.tup htw5), atI_nat (j := 1) rfl, _, rfl, w0, _, (i' : Int), _, rfl, rfl, sqT_of (kG.tup hw05), he, qs, gD, ?_, qs ++ [.ref q'], kG.over hD, upd_same, ?_⟩⟩
      · rw [gT.length, tsN_len]
        have := List.length_take_le' j (S ++ [t])
        rw [List.length_append] at this
        have : ((S ++ [t]).take j).length ≤ S.length + 1 := this
        omega
      · rw [tsN_take hi']
        exact (gT.pickN (kG.tup hq')).put gD
    · obtain ⟨qs, k6, gD, gT⟩ := hG
      rw [List.length_map, List.take_length] at gT
      refine ⟨_, rfl, ?_⟩
      refine ⟨n, D, tsN ts (S ++ [t]), k, rfl, ⟨qs, gD, gT⟩, hn, ?_, hk0, hk1, fun G7 k7 => ⟨_, rfl, ?_⟩⟩
      · rw [tsN_len, List.length_append]
        show S.length + 1 ≤ 1000
        omega
      have kc := kb.trans (k6.trans k7)
      have gf7 := Ke.lst k7 (k6.lst gf5)
      have gl7 := Ke.lst kc gl
      have kk7 := kG.trans (Ke.to kc)
      have hL7 := hLG.ke LO kc
      rw [show greF n ts k S (t :: (ordN ps).drop (i + 1)) = greF n ts k (if canF n (tsN ts (S ++ [t])) k = true then S ++ [t] else S) ((ordN ps).drop (i + 1)) from rfl] at hgr
      cases hc : canF n (tsN ts (S ++ [t])) k with
      | false =>
        rw [if_neg (by rw [hc]; decide)] at hgr
        refine iteF ⟨_, _, S, rfl, kk7, hL7, gf7, gl7, hgr, ?_⟩
        rw [take_next ht]
        exact hsub.trans (List.sublist_append_left _ _)
      | true =>
        rw [if_pos hc] at hgr
        refine iteT ⟨_, rfl, .inl ⟨rfl, _, sqL_of gf7⟩, _, rfl, f, _, _, rfl, rfl, gf7, ?_, _, _, S ++ [t], rfl, kk7.over nf, ?_, ?_, ?_, hgr, ?_⟩
        · rw [List.length_map]
          omega
        · exact hL7.at_lst LO (Ke.put gf7 fun _ z => nomatch z) gf7
        · rw [upd_same]
          exact congrArg (fun z => some (HO.lst z)) ec
        · rw [upd_ne lf]
          exact gl7
        · rw [take_next ht]
          exact hsub.append_right _
  · obtain ⟨y4, y5, S, rfl, kG, hLG, gf, gl, hgr, hsub⟩ := hG
    have hnd : S.Nodup := (hsub.trans (List.take_sublist _ _)).nodup (ordN_nd ps)
    rw [List.length_map, List.drop_length] at hgr
    have eS : S = greF n ts k [] (ordN ps) := hgr
    refine ⟨_, rfl, f, S.map fun (i : Nat) => (i : Int), rfl, by rw [← nV_map]; exact sqL_of gf, fun ns' p hp up np => ?_⟩
    obtain ⟨M, eM, pM, uM⟩ := sorted_nV hp up hnd
    rw [eM]
    refine q _ p M (kG.trans (Ke.to (Ke.new np))) (hLG.ke LO (Ke.new np)) ?_ uM (kG.dom _ np) upd_same
    rw [← eS]
    exact pM
theorem ok__law_spread {P : Program} {w : World} {K : PySem.W.Frag} {mg : Str → Option Value} {base : Heap} {tb : List Addr} {lt : List (Addr × Str)} {f : Addr} {fd : FuncData} {f__law_is_forest : Addr} {fd__law_is_forest : FuncData} (T : Blt mg) (D__law_spread : DefAt K mg "_law_spread" s_law_spread ["_law_points", "_law_ties", "_law_k"] f fd) (LO : LtOk lt) (D__law_is_forest : DefAt K mg "_law_is_forest" s_law_is_forest ["_law_points", "_law_ties"] f__law_is_forest fd__law_is_forest) (G__law_is_forest : FnOk P w K mg base CX0 2 f__law_is_forest fd__law_is_forest ["_law_points", "_law_ties"] (sp__law_is_forest K tb)) :
    FnOk P w K mg base CX0 3 f fd ["_law_points", "_law_ties", "_law_k"] (sp__law_spread K tb) := by
  refine D__law_spread.ok sc__law_spread (fun vs H Q E h => by
    obtain ⟨n, u, rs, ts, k, rfl, hu, hT, hok, hn, hlen, hk0, hk1, q0, q⟩ := h
    all_goals rfl) fun A outer s H vs Q E hr h => ?_
  obtain ⟨n, u, rs, ts, k, rfl, hu, hT, hok, hn, hlen, hk0, hk1, q0, q⟩ := h
  refine ⟨_, pss_cons (ps_set (i := 3) sc__law_spread.nd rfl (.inr rfl) (pe_lst pa_nil))
     (pss_cons (ps_set (i := 4) sc__law_spread.nd rfl (.inl rfl) (pe_lst (pa_cons (pe_un un_neg (pe_int)) pa_nil)))
     (pss_cons (ps_while PassesOwn.never (PW.pt (pw_and (pt_cmpR op_lt (pe_callB (lenK (K := K)) (by rfl) T.b_len PySem.boot_len (pa_cons (pv 3) pa_nil)) (pe_callB (lenK (K := K)) (by rfl) T.b_len PySem.boot_len (pa_cons (pv 1) pa_nil)) (nomark _)) (pw_and1 (pt_cmpR (op_neL0 (K := K) hr.units) (pv 4) (pe_lst pa_nil) (nomark _)))))
     (pss_cons (ps_set (i := 5) sc__law_spread.nd rfl (.inr rfl) (pe_op op_add (pe_bm0 PySem.F.plainAttrs_list PySem.F.slot_list_pop PySem.F.type_list_pop mt_pop (pv 4)) (pe_int)))
     (pss_one (ps_if (pt_cmpR op_lt (pv 5) (pv 2) (nomark _))
     (pss_cons (ps_expr (pe_bm PySem.F.plainAttrs_list PySem.F.slot_list_append PySem.F.type_list_append mt_append (pv 4) (pa_cons (pv 5) pa_nil)))
     (pss_cons (ps_setLc (i := 7) (own := [("_law_j", 6)]) rfl sc__law_spread.nd rfl rfl (sw_true rfl rfl rfl (by decide +kernel)) (pi_range1 (by rfl) T.b_range (pa_cons (pe_callB (lenK (K := K)) (by rfl) T.b_len PySem.boot_len (pa_cons (pv 3) pa_nil)) pa_nil)) (blkOk_by (own := [("_law_j", 6)]) (N := nm__law_spread) (sc := defScope s_law_spread) (by decide +kernel)) (fun _ _ _ _ _ => pg_name (i := 6) sc__law_spread.nd rfl (.inl rfl)) (fun _ _ _ _ _ => pts_one (pt_cmpR op_eq (pe_ix (ix_listK (K := K)) (pv 3) (pv 6) (fun _ _ => rfl)) (pv 5) (nomark _))) (fun _ _ _ _ _ => pe_ix (ix_listK (K := K)) (pv 1) (pv 6) (fun _ _ => rfl)))
     (pss_one (ps_if (pt_val (pe_call G__law_is_forest (hr.mono (by decide)) (by rfl) D__law_is_forest.g D__law_is_forest.F.kp D__law_is_forest.b .nil pass0 (pa_cons (pv 0) (pa_cons (pe_op op_cat (pv 7) (pe_lst (pa_cons (pe_ix (ix_listK (K := K)) (pv 1) (pe_callB (lenK (K := K)) (by rfl) T.b_len PySem.boot_len (pa_cons (pv 3) pa_nil)) (fun _ _ => rfl)) pa_nil))) pa_nil))))
     (pss_cons (ps_expr (pe_bm PySem.F.plainAttrs_list PySem.F.slot_list_append PySem.F.type_list_append mt_append (pv 3) (pa_cons (pv 5) pa_nil)))
     (pss_one (ps_expr (pe_bm PySem.F.plainAttrs_list PySem.F.slot_list_append PySem.F.type_list_append mt_append (pv 4) (pa_cons (pe_un un_neg (pe_int)) pa_nil)))))
     (pss_nil)))))
     (pss_one (ps_if (pt_cmpR (op_neL0 (K := K) hr.units) (pv 3) (pe_lst pa_nil) (nomark _))
     (pss_one (ps_expr (pe_bm0 PySem.F.plainAttrs_list PySem.F.slot_list_pop PySem.F.type_list_pop mt_pop (pv 3))))
     (pss_nil)))))))
     (pss_cons (ps_if (pt_cmpR op_lt (pe_callB (lenK (K := K)) (by rfl) T.b_len PySem.boot_len (pa_cons (pv 3) pa_nil)) (pe_callB (lenK (K := K)) (by rfl) T.b_len PySem.boot_len (pa_cons (pv 1) pa_nil)) (nomark _))
     (pss_one (ps_ret (pe_non)))
     (pss_nil))
     (pss_one (ps_ret (pv 3)))))), ?_⟩
  have LB := line_big
  have hrl := hT.length
  refine ⟨by show 0 ≤ sizeLine; decide, fun f nf => ?_⟩
  have k1 := Ke.new (S := fun _ => False) (o := .lst []) nf
  have gf1 : (upd H f (.lst [])) f = some (.lst (([] : List Int).map V.int)) := upd_same
  generalize upd H f (.lst []) = H1 at *
  refine ⟨_, rfl, by show 1 ≤ sizeLine; decide, fun t nt => ?_⟩
  have k2 := k1.trans (Ke.new (o := .lst [.int (-1)]) nt)
  have gf2 := lst_new (o := .lst [.int (-1)]) nt gf1
  have gt2 : (upd H1 t (.lst [.int (-1)])) t = some (.lst ([(-1 : Int)].map V.int)) := upd_same
  have ft : f ≠ t := (ne_of_none gf1 nt)
  have nt0 : H t = none := k1.dom _ nt
  generalize upd H1 t (.lst [.int (-1)]) = H2 at *
  refine while_gh (α := List Int × List Int) (fun a σ G => ∃ (y5 y6 y7 : Option V), σ = [some (.int (n : Int)), some (.ref u), some (.int k), some (.ref f), some (.ref t), y5, y6, y7] ∧ Ke H G ∧ G f = some (.lst (a.1.map V.int)) ∧ G t = some (.lst (a.2.map V.int)) ∧ Sek ts k a.1 a.2) (sekW k ts.length) ([], [-1]) ⟨_, _, _, rfl, k2, gf2, gt2, Sek.start hk0⟩ (fun a σ G hW => ?_) ?_
  · obtain ⟨fs, tr⟩ := a
    obtain ⟨y5, y6, y7, rfl, kG, gf, gt, hS⟩ := hW
    dsimp only at gf gt hS
    have guG := kG.lst hu
    refine ⟨_, rfl, f, _, rfl, .inl (sqL_of gf), _, rfl, u, _, rfl, .inl (sqL_of guG), _, _, rfl, rfl, _, rfl, ?_⟩
    rw [List.length_map, hrl]
    have hle := hS.le
    refine iteB (fun hb => ?_) (fun hb => ?_)
    rotate_left
    · have hb : ¬ (fs.length : Int) < (ts.length : Int) := of_decide_eq_false hb
      refine iteF ?_
      refine ⟨_, rfl, f, _, rfl, .inl (sqL_of gf), _, rfl, u, _, rfl, .inl (sqL_of guG), _, _, rfl, rfl, _, rfl, ?_⟩
      rw [List.length_map, hrl, decide_eq_false hb]
      refine iteF ⟨_, rfl, ?_⟩
      exact q _ f fs kG nf gf (hS.full (by omega))
    have hb : (fs.length : Int) < (ts.length : Int) := of_decide_eq_true hb
    have hlt : fs.length < ts.length := by omega
    refine ⟨_, rfl, by show 0 ≤ sizeLine; decide, fun z nz => ?_⟩
    have kz := kG.trans (Ke.new (o := .lst []) nz)
    have gf3 := lst_new (o := .lst []) nz gf
    have gt3 := lst_new (o := .lst []) nz gt
    have gu3 := lst_new (o := .lst []) nz guG
    have gz3 : (upd G z (.lst [])) z = some (.lst []) := upd_same
    generalize upd G z (.lst []) = G3 at *
    refine ⟨t, z, _, rfl, rfl, sqL_of gt3, sqL_of gz3, _, rfl, ?_⟩
    rcases List.eq_nil_or_concat tr with rfl | ⟨tr', x, rfl⟩
    · refine iteF ?_
      refine ⟨_, rfl, f, _, rfl, .inl (sqL_of gf3), _, rfl, u, _, rfl, .inl (sqL_of gu3), _, _, rfl, rfl, _, rfl, ?_⟩
      rw [List.length_map, hrl, decide_eq_true hb]
      refine iteT (q0 _ kz ?_)
      cases hc : canF n ts k with
      | false => rfl
      | true =>
        obtain ⟨g, hg⟩ := (whl_can hok hk0).mpr hc
        exact absurd hg (hS.none hlt g)
    rw [List.concat_eq_append] at *
    obtain ⟨x0, x1⟩ : tr' = fs ∧ (-1 ≤ x ∧ x < k) := by
      rcases hS.st with ⟨x', e, x0, x1, _⟩ | ⟨e, _⟩
      · have e' := List.append_inj' e rfl
        cases (show x = x' from by simpa using e'.2)
        exact ⟨e'.1, x0, x1⟩
      · exact absurd e (by simp)
    subst x0
    have hbn : (!(((tr' ++ [x]).map V.int)).isEmpty) = true := by
      cases tr' <;> rfl
    rw [hbn]
    refine iteT ?_
    have hlast : ((tr' ++ [x]).map V.int)[((tr' ++ [x]).map V.int).length - 1]? = some (.int x) := by
      rw [List.length_map, List.length_append, List.map_append, List.getElem?_append_right (by rw [List.length_map]; exact Nat.le_refl _), List.length_map]
      show [V.int x][tr'.length + 1 - 1 - tr'.length]? = _
      rw [show tr'.length + 1 - 1 - tr'.length = 0 by omega]
      rfl
    have hdr : ((tr' ++ [x]).map V.int).dropLast = tr'.map V.int := by rw [List.map_append]; exact List.dropLast_concat
    refine ⟨_, rfl, .inl ⟨rfl, _, sqL_of gt3⟩, t, _, _, rfl, rfl, gt3, hlast, ?_⟩
    rw [hdr]
    have kp := kz.over nt0 (o := .lst (tr'.map V.int))
    have gf4 : (upd G3 t (.lst (tr'.map V.int))) f = some (.lst (tr'.map V.int)) := by rw [upd_ne ft]; exact gf3
    have gu4 : (upd G3 t (.lst (tr'.map V.int))) u = some (.lst rs) := Ke.lst kp hu
    have gt4 : (upd G3 t (.lst (tr'.map V.int))) t = some (.lst (tr'.map V.int)) := upd_same
    generalize upd G3 t (.lst (tr'.map V.int)) = G4 at *
    refine ⟨_, _, rfl, rfl, ?_⟩
    refine ⟨_, rfl, _, rfl, _, _, rfl, rfl, _, rfl, iteB (fun hc => ?_) (fun hc => ?_)⟩
    · have hc : x + 1 < k := of_decide_eq_true hc
      refine ⟨_, rfl, .inl ⟨rfl, _, sqL_of gt4⟩, _, rfl, t, _, _, rfl, rfl, gt4, by rw [List.length_map]; omega, ?_⟩
      have kq := kp.over nt0 (o := .lst (tr'.map V.int ++ [.int (x + 1)]))
      have gf5 : (upd G4 t (.lst (tr'.map V.int ++ [.int (x + 1)]))) f = some (.lst (tr'.map V.int)) := by rw [upd_ne ft]; exact gf4
      have gu5 : (upd G4 t (.lst (tr'.map V.int ++ [.int (x + 1)]))) u = some (.lst rs) := Ke.lst kq hu
      have gt5 : (upd G4 t (.lst (tr'.map V.int ++ [.int (x + 1)]))) t = some (.lst ((tr' ++ [x + 1]).map V.int)) := by rw [upd_same, List.map_append]; rfl
      generalize upd G4 t (.lst (tr'.map V.int ++ [.int (x + 1)])) = G5 at *
      have hT5 : Ties G5 rs ts := hT.ke kq
      refine ⟨_, rfl, f, _, rfl, .inl (sqL_of gf5), ?_⟩
      rw [List.length_map]
      refine ⟨tr'.length, rfl, by omega, by omega, fun D hD => ?_⟩
      refine lc_range (lo := 0) (n := tr'.length) (fun j G => ∃ qs, Ke G5 G ∧ G D = some (.lst qs) ∧ Ties G qs (layerOf (ts.take j) ((tr'.take j).map V.int) (x + 1))) ⟨[], Ke.new hD, upd_same, .nil⟩ (fun j G hj hG => ?_) (fun G6 hG => ?_)
      · obtain ⟨qs, k6, gD, gT⟩ := hG
        obtain ⟨y, hy⟩ : ∃ y, tr'[j]? = some y := ⟨tr'[j], List.getElem?_eq_getElem hj⟩
        have htt : ts[j]? = some (ts.getD j (0, 0)) := by rw [List.getD_eq_getElem?_getD, List.getElem?_eq_getElem (by omega)]; rfl
        obtain ⟨q', he, hq'⟩ := tsN_at hT5 (i := j) (by omega)
        generalize ts.getD j (0, 0) = tt at *
        have en : layerOf (ts.take (j + 1)) ((tr'.take (j + 1)).map V.int) (x + 1) = layerOf (ts.take j) ((tr'.take j).map V.int) (x + 1) ++ if y = x + 1 then [tt] else [] := by
          rw [take_next htt, take_next hy, List.map_append, show [y].map V.int = [V.int y] from rfl, layerOf_snoc (by rw [List.length_map, List.length_take, List.length_take]; omega)]
          by_cases c : y = x + 1
          · rw [if_pos (by rw [c]), if_pos c]
          · rw [if_neg fun z => c (V.int.inj z), if_neg c]
        rw [show (0 : Int) + (j : Int) = (j : Int) by omega]
        refine ⟨rfl, _, rfl, _, rfl, f, _, _, _, rfl, rfl, sqL_of (k6.lst gf5), atI_nat (v := V.int y) (by rw [List.getElem?_map, hy]; rfl), _, rfl, (show IsO (V.int y) from .inr ⟨y, rfl⟩).scal (x + 1), _, rfl, iteB (fun hb => ?_) (fun hb => ?_)⟩
        · have hb : V.int y = V.int (x + 1) := of_decide_eq_true hb
          refine ⟨_, rfl, _, rfl, u, _, _, _, rfl, rfl, sqL_of (k6.lst gu5), he, qs, gD, ?_, qs ++ [.ref q'], k6.over hD, upd_same, ?_⟩
          · rw [gT.length]
            have := layerOf_length (ts.take j) ((tr'.take j).map V.int) (x + 1)
            rw [List.length_take] at this
            omega
          · rw [en, if_pos (V.int.inj hb)]
            exact (gT.pickN (k6.tup hq')).put gD
        · have hb : ¬ V.int y = V.int (x + 1) := of_decide_eq_false hb
          exact ⟨qs, k6, gD, by rw [en, if_neg fun z => hb (by rw [z]), List.append_nil]; exact gT⟩
      obtain ⟨qs, k6, gD, gT⟩ := hG
      rw [List.take_length] at gT
      have htt : ts[tr'.length]? = some (ts.getD tr'.length (0, 0)) := by rw [List.getD_eq_getElem?_getD, List.getElem?_eq_getElem (by omega)]; rfl
      obtain ⟨q', he, hq'⟩ := tsN_at hT5 (i := tr'.length) (by omega)
      obtain ⟨tt, etd⟩ : ∃ tt, ts.getD tr'.length (0, 0) = tt := ⟨_, rfl⟩
      rw [etd] at htt hq'
      have gf6 := k6.lst gf5
      have gu6 := k6.lst gu5
      have gt6 := k6.lst gt5
      refine ⟨_, rfl, _, rfl, _, rfl, _, rfl, f, _, rfl, .inl (sqL_of gf6), ?_⟩
      rw [List.length_map]
      refine ⟨u, _, _, _, rfl, rfl, sqL_of gu6, he, by show 1 ≤ sizeLine; decide, fun m nm => ?_⟩
      have gD7 := lst_new (o := .lst [.ref q']) nm gD
      have gm : (upd G6 m (.lst [.ref q'])) m = some (.lst [.ref q']) := upd_same
      have k7 := k6.trans (Ke.new (o := .lst [.ref q']) nm)
      have gT7 := gT.new (o := .lst [.ref q']) nm
      generalize upd G6 m (.lst [.ref q']) = G7 at *
      have hqs := gT.length
      have hll := layerOf_length (ts.take tr'.length) (tr'.map V.int) (x + 1)
      rw [List.length_take] at hll
      refine ⟨D, m, _, _, rfl, rfl, gD7, gm, by show qs.length + 1 ≤ sizeLine; omega, fun c nc => ?_⟩
      have k8 := k7.trans (Ke.new (o := .lst (qs ++ [.ref q'])) nc)
      have gc : (upd G7 c (.lst (qs ++ [.ref q']))) c = some (.lst (qs ++ [.ref q'])) := upd_same
      have gT8 := (gT7.new (o := .lst (qs ++ [.ref q'])) nc).pickN (t := tt) (Ke.tup k8 hq')
      generalize upd G7 c (.lst (qs ++ [.ref q'])) = G8 at *
      have okl : TOk (n : Int) (layerOf (ts.take tr'.length) (tr'.map V.int) (x + 1) ++ [tt]) := fun t' ht' => by
        rcases List.mem_append.mp ht' with z | z
        · exact hok t' (List.take_subset _ _ (((List.filter_sublist).map Prod.fst).subset z |> fun y => by
            obtain ⟨p, hp, rfl⟩ := List.mem_map.mp y
            exact (List.of_mem_zip hp).1))
        · rw [List.mem_singleton.mp z]
          exact hok tt (List.mem_of_getElem? htt)
      refine ⟨(n : Int), c, _, _, rfl, gc, gT8, okl, by omega, by omega, fun G9 k9 => ⟨_, rfl, ?_⟩⟩
      have kk := kq.trans (k8.trans k9)
      have gf9 := Ke.lst (k8.trans k9) gf5
      have gt9 := Ke.lst (k8.trans k9) gt5
      rw [← etd]
      cases hr : ringlessF (fun x => x) (layerOf (ts.take tr'.length) (tr'.map V.int) (x + 1) ++ [ts.getD tr'.length (0, 0)]) with
      | false =>
        have hS2 := hS.off hlt hc hr
        refine iteF ⟨(tr', tr' ++ [x + 1]), ?_, _, _, _, rfl, kk, gf9, gt9, hS2⟩
        rw [sekW_snoc, sekW_snoc]
        exact leftW_miss hc
      | true =>
        have hS2 := hS.on hlt hc hr
        refine iteT ⟨_, rfl, .inl ⟨rfl, _, sqL_of gf9⟩, _, rfl, f, _, _, rfl, rfl, gf9, by rw [List.length_map]; omega, ?_⟩
        have gt10 : (upd G9 f (.lst (tr'.map V.int ++ [.int (x + 1)]))) t = some (.lst ((tr' ++ [x + 1]).map V.int)) := by rw [upd_ne ft.symm]; exact gt9
        have gf10 : (upd G9 f (.lst (tr'.map V.int ++ [.int (x + 1)]))) f = some (.lst ((tr' ++ [x + 1]).map V.int)) := by rw [upd_same, List.map_append]; rfl
        have k10 := kk.over nf (o := .lst (tr'.map V.int ++ [.int (x + 1)]))
        generalize upd G9 f (.lst (tr'.map V.int ++ [.int (x + 1)])) = G10 at *
        refine ⟨_, rfl, .inl ⟨rfl, _, sqL_of gt10⟩, _, rfl, t, _, _, rfl, rfl, gt10, by rw [List.length_map, List.length_append]; show tr'.length + 1 + 1 ≤ sizeLine; omega, ?_⟩
        refine ⟨(tr' ++ [x + 1], tr' ++ [x + 1] ++ [-1]), ?_, _, _, _, rfl, k10.over nt0, by rw [upd_ne ft]; exact gf10, by rw [upd_same]; exact congrArg (fun z => some (HO.lst z)) (List.map_append (f := V.int) (l₁ := tr' ++ [x + 1]) (l₂ := [-1])).symm, hS2⟩
        rw [sekW_snoc, sekW_snoc]
        exact leftW_down hc hlt
    · have hc : ¬ x + 1 < k := of_decide_eq_false hc
      refine ⟨_, rfl, by show 0 ≤ sizeLine; decide, fun z2 nz2 => ?_⟩
      have ky := kp.trans (Ke.new (o := .lst []) nz2)
      have gf5 := lst_new (o := .lst []) nz2 gf4
      have gt5 := lst_new (o := .lst []) nz2 gt4
      have gz5 : (upd G4 z2 (.lst [])) z2 = some (.lst []) := upd_same
      generalize upd G4 z2 (.lst []) = G5 at *
      refine ⟨f, z2, _, rfl, rfl, sqL_of gf5, sqL_of gz5, _, rfl, ?_⟩
      rcases List.eq_nil_or_concat tr' with rfl | ⟨fs, y, rfl⟩
      · refine iteF ⟨([], []), ?_, _, _, _, rfl, ky, gf5, gt5, hS.out hlt (by omega)⟩
        rw [sekW_snoc]
        show 0 < _
        unfold leftW
        omega
      · rw [List.concat_eq_append] at *
        have hbn2 : (!(((fs ++ [y]).map V.int)).isEmpty) = true := by
          cases fs <;> rfl
        rw [hbn2]
        have hlast2 : ((fs ++ [y]).map V.int)[((fs ++ [y]).map V.int).length - 1]? = some (.int y) := by
          rw [List.length_map, List.length_append, List.map_append, List.getElem?_append_right (by rw [List.length_map]; exact Nat.le_refl _), List.length_map]
          show [V.int y][fs.length + 1 - 1 - fs.length]? = _
          rw [show fs.length + 1 - 1 - fs.length = 0 by omega]
          rfl
        have hdr2 : ((fs ++ [y]).map V.int).dropLast = fs.map V.int := by rw [List.map_append]; exact List.dropLast_concat
        refine iteT ⟨_, rfl, .inl ⟨rfl, _, sqL_of gf5⟩, f, _, _, rfl, rfl, gf5, hlast2, ?_⟩
        rw [hdr2]
        refine ⟨(fs, fs ++ [y]), ?_, _, _, _, rfl, ky.over nf, upd_same, by rw [upd_ne ft.symm]; exact gt5, hS.back hlt (by omega)⟩
        rw [sekW_snoc, sekW_snoc]
        exact leftW_back
  · intro σ G Q0 Q1 hQ h
    obtain ⟨v1, e1, f', xs, e2, e3, v2, e4, u', ys, e5, e6, a, b, e7, e8, c, e9, h⟩ := h
    refine ⟨v1, e1, f', xs, e2, e3, v2, e4, u', ys, e5, e6, a, b, e7, e8, c, e9, ?_⟩
    cases c with
    | false => exact hQ _ _ (ifF_of h)
    | true =>
      obtain ⟨v3, e10, sz, h⟩ := ifT_of h
      refine iteT ⟨v3, e10, sz, fun z nz => ?_⟩
      obtain ⟨a1, b1, xs1, g1, g2, g3, g4, c2, g5, h⟩ := h z nz
      exact ⟨a1, b1, xs1, g1, g2, g3, g4, c2, g5, hQ _ _ h⟩
theorem ok__law_prices {P : Program} {w : World} {K : PySem.W.Frag} {mg : Str → Option Value} {base : Heap} {tb : List Addr} {lt : List (Addr × Str)} {f : Addr} {fd : FuncData} {f__law_next : Addr} {fd__law_next : FuncData} (T : Blt mg) (D__law_prices : DefAt K mg "_law_prices" s_law_prices ["_law_deck_here", "_law_many"] f fd) (LO : LtOk lt) (D__law_next : DefAt K mg "_law_next" s_law_next ["_law_deck_here"] f__law_next fd__law_next) (G__law_next : FnOk P w K mg base CX0 1 f__law_next fd__law_next ["_law_deck_here"] (sp__law_next K tb)) :
    FnOk P w K mg base CX0 2 f fd ["_law_deck_here", "_law_many"] (sp__law_prices K tb) := by
  refine D__law_prices.ok sc__law_prices (fun vs H Q E h => by
    obtain ⟨p, m, rfl, hd, hm, q⟩ := h
    all_goals rfl) fun A outer s H vs Q E hr h => ?_
  obtain ⟨p, m, rfl, hd, hm, q⟩ := h
  refine ⟨_, pss_cons (ps_set (i := 2) sc__law_prices.nd rfl (.inl rfl) (pe_call G__law_next (hr.mono (by decide)) (by rfl) D__law_next.g D__law_next.F.kp D__law_next.b .nil pass0 (pa_cons (pv 0) pa_nil)))
     (pss_cons (ps_set (i := 3) sc__law_prices.nd rfl (.inl rfl) (pe_lst (pa_cons (pe_int) (pa_cons (pe_int) (pa_cons (pe_int) (pa_cons (pe_int) (pa_cons (pe_int) pa_nil)))))))
     (pss_cons (ps_set (i := 4) sc__law_prices.nd rfl (.inl rfl) (pe_lst pa_nil))
     (pss_cons (ps_for PassesOwn.never rfl (pi_range1 (by rfl) T.b_range (pa_cons (pv 1) pa_nil)) (pg_name (i := 5) sc__law_prices.nd rfl (.inl rfl))
     (pss_cons (ps_set (i := 6) sc__law_prices.nd rfl (.inl rfl) (pe_op op_mod (pe_call G__law_next (hr.mono (by decide)) (by rfl) D__law_next.g D__law_next.F.kp D__law_next.b .nil pass0 (pa_cons (pv 0) pa_nil)) (pe_ix (ix_listK (K := K)) (pv 3) (pe_op op_mod (pv 2) (pe_int)) (fun _ _ => rfl))))
     (C8.pss_cut (ps_if (pt_cmpR op_eq (pe_op op_mod (pv 2) (pe_int)) (pe_int) (nomark _))
     (pss_one (ps_set (i := 6) sc__law_prices.nd rfl (.inl rfl) (pe_op op_add (pe_op op_mul (pv 6) (pe_int)) (pe_ix (ix_listK (K := K)) (pe_lst (pa_cons (pe_int) (pa_cons (pe_int) (pa_cons (pe_int) pa_nil)))) (pe_op op_mod (pe_call G__law_next (hr.mono (by decide)) (by rfl) D__law_next.g D__law_next.F.kp D__law_next.b .nil pass0 (pa_cons (pv 0) pa_nil)) (pe_int)) (fun _ _ => rfl)))))
     (pss_nil))
     (pss_one (ps_expr (pe_bm PySem.F.plainAttrs_list PySem.F.slot_list_append PySem.F.type_list_append mt_append (pv 4) (pa_cons (pv 6) pa_nil)))))))
     (pss_one (ps_ret (pe_callTy (tupleK (K := K)) (by rfl) T.b_tuple (by decide +kernel) (pa_cons (pv 4) pa_nil))))))), ?_⟩
  have LB := line_big
  refine ⟨_, rfl, p, rfl, hd, fun r H1 r0 r1 k1 => ?_⟩
  refine ⟨by show 5 ≤ sizeLine; decide, fun l nl => ?_⟩
  have pl : l ≠ p := (k1.d.ne nl).symm
  have k2 : Dk p H (upd H1 l (.lst [.int 1, .int 2, .int 3, .int 1000, .int 1000])) := k1.new nl
  have gl : (upd H1 l (.lst [.int 1, .int 2, .int 3, .int 1000, .int 1000])) l = some (.lst [.int 1, .int 2, .int 3, .int 1000, .int 1000]) := upd_same
  generalize upd H1 l (.lst [.int 1, .int 2, .int 3, .int 1000, .int 1000]) = H2 at *
  refine ⟨by show 0 ≤ sizeLine; decide, fun f nf => ?_⟩
  have nHf : H f = none := k2.k.dom _ nf
  have pf : f ≠ p := (hd.ne nHf).symm
  have lf : l ≠ f := ne_of_none gl nf
  have ec := emod_bds r (n := 5) (by decide)
  obtain ⟨g, g0, g1, eg⟩ : ∃ g : Int, 1 ≤ g ∧ g ≤ 1000 ∧ atI [V.int 1, .int 2, .int 3, .int 1000, .int 1000] (r % 5) = some (.int g) := by
    rcases (show r % 5 = 0 ∨ r % 5 = 1 ∨ r % 5 = 2 ∨ r % 5 = 3 ∨ r % 5 = 4 by omega) with e | e | e | e | e <;> rw [e]
    · exact ⟨1, by omega, by omega, rfl⟩
    · exact ⟨2, by omega, by omega, rfl⟩
    · exact ⟨3, by omega, by omega, rfl⟩
    · exact ⟨1000, by omega, by omega, rfl⟩
    · exact ⟨1000, by omega, by omega, rfl⟩
  refine ⟨_, rfl, m, rfl, by omega, by omega, ?_⟩
  refine for_range (n := m) (fun i σ G => ∃ (y5 y6 : Option V) (ps : List Int), σ = [some (.ref p), some (.int m), some (.int r), some (.ref l), some (.ref f), y5, y6] ∧ Dk p H G ∧ G l = some (.lst [.int 1, .int 2, .int 3, .int 1000, .int 1000]) ∧ G f = some (.lst (ps.map V.int)) ∧ ps.length = i ∧ ∀ x ∈ ps, 0 ≤ x ∧ x ≤ 1000000000) ⟨_, _, [], rfl, k2.new nf, lst_new nf gl, upd_same, rfl, fun _ z => nomatch z⟩ (fun i σ G hi hG => ?_) (fun σ G hG => ?_)
  · obtain ⟨y5, y6, ps, rfl, kG, gG, gf, hps, hall⟩ := hG
    refine ⟨_, rfl, p, rfl, kG.d, fun s H3 s0 s1 k3 => ?_⟩
    have gl3 := k3.lst gG pl
    have gf3 := k3.lst gf pf
    have es := emod_bds s (n := g) (by omega)
    refine ⟨_, rfl, _, rfl, _, _, rfl, rfl, by show (0 : Int) < 5; decide, l, _, _, _, rfl, rfl, sqL_of gl3, eg, _, _, rfl, rfl, by omega, ?_⟩
    have kk := kG.trans k3
    have pl1 : (ps.map V.int).length < sizeLine := by rw [List.length_map]; omega
    refine ⟨fun σ' G4 => ∃ x : Int, σ' = [some (V.ref p), some (.int m), some (.int r), some (.ref l), some (.ref f), some (.int (0 + (i : Int))), some (.int x)] ∧ Dk p H G4 ∧ G4 l = some (.lst [.int 1, .int 2, .int 3, .int 1000, .int 1000]) ∧ G4 f = some (.lst (ps.map V.int)) ∧ 0 ≤ x ∧ x ≤ 1000000000, ?_, ?_⟩
    · refine ⟨_, rfl, _, _, rfl, rfl, by show (0 : Int) < 5; decide, rfl, _, rfl, iteB (fun hb => ?_) (fun hb => ?_)⟩
      · refine ⟨_, rfl, _, _, rfl, rfl, .inl ⟨by omega, by omega⟩, by show 3 ≤ sizeLine; decide, fun l3 nl3 => ?_⟩
        have pl3 : l3 ≠ p := (k3.d.ne nl3).symm
        refine ⟨_, rfl, p, rfl, k3.d.new nl3, fun t H4 t0 t1 k4 => ?_⟩
        have et := emod_bds t (n := 3) (by decide)
        obtain ⟨z, z0, z1, ez⟩ : ∃ z : Int, 0 ≤ z ∧ z ≤ 1000000 ∧ atI [V.int 0, .int 1000000, .int 999999] (t % 3) = some (.int z) := by
          rcases (show t % 3 = 0 ∨ t % 3 = 1 ∨ t % 3 = 2 by omega) with e | e | e <;> rw [e]
          · exact ⟨0, by omega, by omega, rfl⟩
          · exact ⟨1000000, by omega, by omega, rfl⟩
          · exact ⟨999999, by omega, by omega, rfl⟩
        have g3 := k4.lst (upd_same (H := H3) (a := l3) (o := .lst [.int 0, .int 1000000, .int 999999])) pl3
        refine ⟨_, _, rfl, rfl, by show (0 : Int) < 3; decide, l3, _, _, _, rfl, rfl, sqL_of g3, ez, _, _, rfl, rfl, ?_⟩
        exact ⟨_, rfl, (kk.new nl3).trans k4, k4.lst (lst_new nl3 gl3) pl, k4.lst (lst_new nl3 gf3) pf, by omega, by omega⟩
      · exact ⟨_, rfl, kk, gl3, gf3, by omega, by omega⟩
    · rintro σ' G4 ⟨x, rfl, a, b, c, d, e⟩
      refine ⟨_, rfl, .inl ⟨rfl, _, sqL_of c⟩, _, rfl, f, _, _, rfl, rfl, c, pl1, ?_⟩
      refine ⟨_, _, ps ++ [x], rfl, a.over hd nHf, by rw [upd_ne lf]; exact b, by rw [upd_same, List.map_append]; rfl, by rw [List.length_append, hps]; rfl, fun z hz => ?_⟩
      rcases List.mem_append.mp hz with hz | hz
      · exact hall z hz
      · rw [List.mem_singleton.mp hz]
        exact ⟨d, e⟩
  · obtain ⟨y5, y6, ps, rfl, kG, gG, gf, hps, hall⟩ := hG
    refine ⟨_, rfl, f, _, rfl, .inl ⟨sqL_of gf, fun c nc => ?_⟩⟩
    exact q _ _ ps (kG.new nc) ⟨⟨c, rfl, upd_same⟩, hps⟩ hall
theorem ok__law_priced {P : Program} {w : World} {K : PySem.W.Frag} {mg : Str → Option Value} {base : Heap} {tb : List Addr} {lt : List (Addr × Str)} {f : Addr} {fd : FuncData} {f__law_next : Addr} {fd__law_next : FuncData} {f__law_web : Addr} {fd__law_web : FuncData} {f__law_prices : Addr} {fd__law_prices : FuncData} (T : Blt mg) (D__law_priced : DefAt K mg "_law_priced" s_law_priced ["_law_deck_here"] f fd) (LO : LtOk lt) (D__law_next : DefAt K mg "_law_next" s_law_next ["_law_deck_here"] f__law_next fd__law_next) (G__law_next : FnOk P w K mg base CX0 1 f__law_next fd__law_next ["_law_deck_here"] (sp__law_next K tb)) (D__law_web : DefAt K mg "_law_web" s_law_web ["_law_deck_here", "_law_points", "_law_most"] f__law_web fd__law_web) (G__law_web : FnOk P w K mg base CX0 4 f__law_web fd__law_web ["_law_deck_here", "_law_points", "_law_most"] (sp__law_web K tb)) (D__law_prices : DefAt K mg "_law_prices" s_law_prices ["_law_deck_here", "_law_many"] f__law_prices fd__law_prices) (G__law_prices : FnOk P w K mg base CX0 2 f__law_prices fd__law_prices ["_law_deck_here", "_law_many"] (sp__law_prices K tb)) :
    FnOk P w K mg base CX0 5 f fd ["_law_deck_here"] (sp__law_priced K tb) := by
  refine D__law_priced.ok sc__law_priced (fun vs H Q E h => by
    obtain ⟨p, rfl, hd, q⟩ := h
    all_goals rfl) fun A outer s H vs Q E hr h => ?_
  obtain ⟨p, rfl, hd, q⟩ := h
  refine ⟨_, pss_cons (ps_set (i := 1) sc__law_priced.nd rfl (.inl rfl) (pe_call G__law_web (hr.mono (by decide)) (by rfl) D__law_web.g D__law_web.F.kp D__law_web.b .nil pass0 (pa_cons (pv 0) (pa_cons (pe_int) (pa_cons (pe_int) pa_nil)))))
     (pss_one (ps_ret (pe_tup (pa_cons (pv 1) (pa_cons (pe_op op_mod (pe_call G__law_next (hr.mono (by decide)) (by rfl) D__law_next.g D__law_next.F.kp D__law_next.b .nil pass0 (pa_cons (pv 0) pa_nil)) (pe_int)) (pa_cons (pe_call G__law_prices (hr.mono (by decide)) (by rfl) D__law_prices.g D__law_prices.F.kp D__law_prices.b .nil pass0 (pa_cons (pv 0) (pa_cons (pe_callB (lenK (K := K)) (by rfl) T.b_len PySem.boot_len (pa_cons (pe_ix (ix_tupK (K := K)) (pv 1) (pe_int) (fun _ _ => rfl)) pa_nil)) pa_nil))) pa_nil)))))), ?_⟩
  have LB := line_big
  refine ⟨_, rfl, p, 5, 8, rfl, hd, by decide, by decide, by decide, by decide, fun G1 v ni ts k1 W hn1 hn2 hm hok => ?_⟩
  obtain ⟨n, rfl⟩ : ∃ n : Nat, ni = (n : Int) := ⟨ni.toNat, by omega⟩
  obtain ⟨tw, w0, rs, rfl, htw, hw0, hT⟩ := id W
  have hrl := hT.length
  refine ⟨_, rfl, _, rfl, p, rfl, k1.d, fun r G2 r0 r1 k2 => ⟨_, _, rfl, rfl, by show (0 : Int) < 4; decide, ?_⟩⟩
  have er := emod_bds r (n := 4) (by decide)
  refine ⟨_, rfl, _, rfl, tw, _, 1, _, rfl, rfl, sqT_of (k2.tup k1.d htw), atI_nat (j := 1) rfl, w0, _, rfl, .inr (sqT_of (k2.tup k1.d hw0)), ?_⟩
  rw [hrl]
  refine ⟨p, ts.length, rfl, k2.d, by omega, fun G3 pr ps k3 hP hps => ?_⟩
  have W3 := W.dk (k2.trans k3) k1.d
  refine ⟨by show 3 ≤ sizeLine; decide, fun x nx => ?_⟩
  obtain ⟨⟨pa, rfl, gpr⟩, hpl⟩ := hP
  exact q _ x _ n ts _ _ ps (((k1.trans k2).trans k3).new nx) upd_same (W3.ke (Ke.new nx)) (by omega) (by omega) (by omega) hok er.1 er.2 ⟨⟨pa, rfl, Ke.tup (Ke.new nx) gpr⟩, hpl⟩ hps
theorem ok__law_cheaper_within {P : Program} {w : World} {K : PySem.W.Frag} {mg : Str → Option Value} {base : Heap} {tb : List Addr} {lt : List (Addr × Str)} {f : Addr} {fd : FuncData} (T : Blt mg) (D__law_cheaper_within : DefAt K mg "_law_cheaper_within" s_law_cheaper_within ["_law_web_here", "_law_prices_here", "_law_laying", "_law_lot_here", "_law_tie_here", "_law_forest"] f fd) (LO : LtOk lt) :
    FnOk P w K mg base CX0 1 f fd ["_law_web_here", "_law_prices_here", "_law_laying", "_law_lot_here", "_law_tie_here", "_law_forest"] (sp__law_cheaper_within K tb) := by
  refine D__law_cheaper_within.ok sc__law_cheaper_within (fun vs H Q E h => by
    obtain ⟨v, n, ts, pr, ps, u, ws, b, ls, i, f, rfl, W, hP, hu, hwl, hO, hb, hi, hlen, q⟩ := h
    all_goals rfl) fun A outer s H vs Q E hr h => ?_
  obtain ⟨v, n, ts, pr, ps, u, ws, b, ls, i, f, rfl, W, hP, hu, hwl, hO, hb, hi, hlen, q⟩ := h
  refine ⟨_, pss_cons (ps_set (i := 6) sc__law_cheaper_within.nd rfl (.inl rfl) (pe_lst pa_nil))
     (pss_cons (ps_for PassesOwn.never rfl (pi_range1 (by rfl) T.b_range (pa_cons (pe_callB (lenK (K := K)) (by rfl) T.b_len PySem.boot_len (pa_cons (pv 1) pa_nil)) pa_nil)) (pg_name (i := 7) sc__law_cheaper_within.nd rfl (.inl rfl))
     (pss_cons (ps_asg (pe_ix (ix_tupK (K := K)) (pe_ix (ix_tupK (K := K)) (pv 0) (pe_int) (fun _ _ => rfl)) (pv 7) (fun _ _ => rfl)) (tgtK (K := K) (n := 2) (pgs_cons (pg_name (i := 8) sc__law_cheaper_within.nd rfl (.inl rfl)) (pgs_cons (pg_name (i := 9) sc__law_cheaper_within.nd rfl (.inl rfl)) pgs_nil))))
     (pss_one (ps_if (PW.pt (pw_and (pt_cmpR op_eq (pe_ix (ix_tupK (K := K)) (pv 2) (pv 7) (fun _ _ => rfl)) (pv 5) (nomark _)) (pw_and (pt_cmpR (in_seqK (K := K)) (pv 8) (pv 3) (by rfl)) (pw_and (pt_cmpR (in_seqK (K := K)) (pv 9) (pv 3) (by rfl)) (pw_and1 (pt_cmpR (op_ltP (K := K) hr.units0) (pe_tup (pa_cons (pe_ix (ix_tupK (K := K)) (pv 1) (pv 7) (fun _ _ => rfl)) (pa_cons (pv 7) pa_nil))) (pe_tup (pa_cons (pe_ix (ix_tupK (K := K)) (pv 1) (pv 4) (fun _ _ => rfl)) (pa_cons (pv 4) pa_nil))) (nomark _)))))))
     (pss_one (ps_expr (pe_bm PySem.F.plainAttrs_list PySem.F.slot_list_append PySem.F.type_list_append mt_append (pv 6) (pa_cons (pv 7) pa_nil))))
     (pss_nil)))))
     (pss_one (ps_ret (pv 6)))), ?_⟩
  have LB := line_big
  obtain ⟨tw, w0, rs, rfl, htw, hw0, hT⟩ := id W
  obtain ⟨⟨pa, rfl, gpr⟩, hpl⟩ := id hP
  have hpl' : (ps.map V.int).length = ts.length := by rw [List.length_map, hpl]
  refine ⟨by show 0 ≤ sizeLine; decide, fun l nl => ?_⟩
  have k1 := Ke.new (S := fun _ => False) (o := .lst []) nl
  have gl1 : (upd H l (.lst [])) l = some (.lst (nV [])) := upd_same
  refine ⟨_, rfl, pa, _, rfl, .inr (sqT_of (Ke.tup k1 gpr)), ?_⟩
  rw [hpl']
  generalize upd H l (.lst []) = H1 at *
  refine ⟨ts.length, rfl, by omega, by omega, ?_⟩
  refine for_range (lo := 0) (n := ts.length) (fun j σ G => ∃ (y7 y8 y9 : Option V), σ = [some (.ref tw), some (.ref pa), some (.ref u), some (.ref b), some (.int (i : Int)), some (.int f), some (.ref l), y7, y8, y9] ∧ Ke H G ∧ G l = some (.lst (nV (chW ts ps ws ls i f j)))) ⟨_, _, _, rfl, k1, gl1⟩ (fun j σ G hj hG => ?_) (fun σ G hG => ?_)
  · obtain ⟨y7, y8, y9, rfl, kG, gl⟩ := hG
    rw [Int.zero_add]
    have htwG := kG.tup htw
    have hw0G := kG.tup hw0
    obtain ⟨q', he, hq'⟩ := tsN_at hT hj
    have hqG := kG.tup hq'
    refine ⟨_, rfl, tw, _, 1, _, rfl, rfl, sqT_of htwG, atI_nat (j := 1) rfl, _, rfl, w0, _, (j : Int), _, rfl, rfl, sqT_of hw0G, he, ?_⟩
    refine ⟨q', _, rfl, sqT_of hqG, rfl, _, _, rfl, _, [], rfl, rfl, ?_⟩
    obtain ⟨y, hy⟩ : ∃ y, ws[j]? = some y := ⟨_, List.getElem?_eq_getElem (by omega)⟩
    have hyd : ws.getD j .non = y := by rw [List.getD_eq_getElem?_getD, hy]; rfl
    have flt : (ls.map V.int).all flatV = true := List.all_eq_true.mpr fun z hz => by
      obtain ⟨x, _, rfl⟩ := List.mem_map.mp hz
      rfl
    have no : chWB ts ps ws ls i f j = false → G l = some (.lst (nV (chW ts ps ws ls i f (j + 1)))) := fun h => by
      rw [chW_succ, if_neg (by rw [h]; decide), List.append_nil]
      exact gl
    have hlen2 : (chW ts ps ws ls i f j).length ≤ j := chW_len
    refine ⟨_, rfl, _, rfl, u, _, (j : Int), _, rfl, rfl, sqT_of (kG.tup hu), atI_nat (j := j) hy, _, rfl, (hO y (List.mem_of_getElem? hy)).scal f, _, rfl, ?_⟩
    by_cases c1 : y = V.int f
    · rw [decide_eq_true c1]
      refine iteT ⟨_, rfl, _, rfl, b, _, rfl, .inr (sqT_of (kG.tup hb)), rfl, flt, _, rfl, ?_⟩
      rw [show (if false = true then !inV (V.int (ts.getD j (0, 0)).1) (ls.map V.int) else inV (V.int (ts.getD j (0, 0)).1) (ls.map V.int)) = decide ((ts.getD j (0, 0)).1 ∈ ls) from inV_int _ _]
      by_cases c2 : (ts.getD j (0, 0)).1 ∈ ls
      · rw [decide_eq_true c2]
        refine iteT ⟨_, rfl, _, rfl, b, _, rfl, .inr (sqT_of (kG.tup hb)), rfl, flt, _, rfl, ?_⟩
        rw [show (if false = true then !inV (V.int (ts.getD j (0, 0)).2) (ls.map V.int) else inV (V.int (ts.getD j (0, 0)).2) (ls.map V.int)) = decide ((ts.getD j (0, 0)).2 ∈ ls) from inV_int _ _]
        by_cases c3 : (ts.getD j (0, 0)).2 ∈ ls
        · rw [decide_eq_true c3]
          refine iteT ?_
          refine ⟨_, rfl, _, rfl, pa, _, (j : Int), _, rfl, rfl, sqT_of (kG.tup gpr), prc_at (by omega), _, rfl, by show 2 ≤ sizeLine; decide, fun z1 nz1 => ?_⟩
          have k1 := Ke.new (S := fun _ => False) (o := .tup [.int (prI ps j), .int (j : Int)]) nz1
          have g1 : (upd G z1 (.tup [.int (prI ps j), .int (j : Int)])) z1 = some (.tup [.int (prI ps j), .int (j : Int)]) := upd_same
          have gl1 := Ke.lst k1 gl
          have gpr1 := Ke.tup k1 (kG.tup gpr)
          generalize upd G z1 (.tup [.int (prI ps j), .int (j : Int)]) = G1 at *
          refine ⟨_, rfl, _, rfl, pa, _, (i : Int), _, rfl, rfl, sqT_of gpr1, prc_at (by omega), _, rfl, by show 2 ≤ sizeLine; decide, fun z2 nz2 => ?_⟩
          have k2 := Ke.new (S := fun _ => False) (o := .tup [.int (prI ps i), .int (i : Int)]) nz2
          refine ⟨z1, z2, _, _, _, _, rfl, rfl, sqT_of (Ke.tup k2 g1), sqT_of upd_same, _, rfl, ?_⟩
          have gl2 := Ke.lst k2 gl1
          have kk := kG.trans (k1.trans k2)
          rw [lexI_chB]
          by_cases c4 : chB ps j i
          · rw [decide_eq_true c4]
            refine iteT ⟨_, rfl, .inl ⟨rfl, _, sqL_of gl2⟩, _, rfl, l, _, _, rfl, rfl, gl2, by rw [List.length_map]; omega, _, _, _, rfl, kk.over nl, ?_⟩
            rw [upd_same, chW_succ, if_pos (by unfold chWB; rw [decide_eq_true (hyd.trans c1), decide_eq_true c2, decide_eq_true c3, decide_eq_true c4]; rfl), nV_snoc]
          · rw [decide_eq_false c4]
            refine iteF ⟨_, _, _, rfl, kk, Ke.lst k2 (Ke.lst k1 (no ?_))⟩
            unfold chWB
            rw [decide_eq_false c4]
            simp
        · rw [decide_eq_false c3]
          refine iteF (iteF ⟨_, _, _, rfl, kG, no ?_⟩)
          unfold chWB
          rw [decide_eq_false c3]
          simp
      · rw [decide_eq_false c2]
        refine iteF (iteF ⟨_, _, _, rfl, kG, no ?_⟩)
        unfold chWB
        rw [decide_eq_false c2]
        simp
    · rw [decide_eq_false c1]
      refine iteF (iteF ⟨_, _, _, rfl, kG, no ?_⟩)
      unfold chWB
      rw [decide_eq_false (by rw [hyd]; exact c1)]
      rfl
  · obtain ⟨y7, y8, y9, rfl, kG, gl⟩ := hG
    exact ⟨_, rfl, q G l kG nl gl⟩
theorem ok__law_is_lot {P : Program} {w : World} {K : PySem.W.Frag} {mg : Str → Option Value} {base : Heap} {tb : List Addr} {lt : List (Addr × Str)} {f : Addr} {fd : FuncData} {f__law_is_int : Addr} {fd__law_is_int : FuncData} (T : Blt mg) (D__law_is_lot : DefAt K mg "_law_is_lot" s_law_is_lot ["_law_web_here", "_law_thing"] f fd) (LO : LtOk lt) (D__law_is_int : DefAt K mg "_law_is_int" s_law_is_int ["_law_thing", "_law_least", "_law_most"] f__law_is_int fd__law_is_int) (G__law_is_int : FnOk P w K mg base CX0 1 f__law_is_int fd__law_is_int ["_law_thing", "_law_least", "_law_most"] (sp__law_is_int K tb)) :
    FnOk P w K mg base CX0 2 f fd ["_law_web_here", "_law_thing"] (sp__law_is_lot K tb) := by
  refine D__law_is_lot.ok sc__law_is_lot (fun vs H Q E h => by
    obtain ⟨v, n, ts, t, rfl, W, hn0, hn1, hd, q⟩ := h
    all_goals rfl) fun A outer s H vs Q E hr h => ?_
  obtain ⟨v, n, ts, t, rfl, W, hn0, hn1, hd, q⟩ := h
  refine ⟨_, pss_cons (ps_if (PW.pt (pw_or (pt_not (pt_val (pe_callB (isiK (K := K)) (by rfl) T.b_isinstance (by decide +kernel) (pa_cons (pv 1) (pa_cons (pe_bltn (v := .ty "tuple") (u := .type "tuple") (by rfl) T.b_tuple (by decide +kernel) rfl) pa_nil))))) (pw_or1 (pt_cmpR (op_eq0 (K := K) hr.units) (pv 1) (pe_tup pa_nil) (nomark _)))))
     (pss_one (ps_ret (pe_bl)))
     (pss_nil))
     (pss_cons (ps_if (pt_cmpR (neDK (K := K) hr.units) (pe_lc (own := [("_law_one", 2)]) rfl sc__law_is_lot.nd (pi_tup (pv 1)) (blkOk_by (own := [("_law_one", 2)]) (N := nm__law_is_lot) (sc := defScope s_law_is_lot) (by decide +kernel)) (fun _ _ _ _ _ => pg_name (i := 2) sc__law_is_lot.nd rfl (.inl rfl)) (fun _ _ _ _ _ => pts_one (pt_not (pt_val (pe_call G__law_is_int (hr.mono (by decide)) (by rfl) D__law_is_int.g D__law_is_int.F.kp D__law_is_int.b .nil pass0 (pa_cons (pv 2) (pa_cons (pe_int) (pa_cons (pe_op op_sub (pe_ix (ix_tupK (K := K)) (pv 0) (pe_int) (fun _ _ => rfl)) (pe_int)) pa_nil))))))) (fun _ _ _ _ _ => pe_int)) (pe_lst pa_nil) (nomark _))
     (pss_one (ps_ret (pe_bl)))
     (pss_nil))
     (pss_one (ps_ret (pe_cmpR (eqDK (K := K) hr.units) (pv 1) (pe_callTy (tupleK (K := K)) (by rfl) T.b_tuple (by decide +kernel) (pa_cons (pe_callB (cr_sortedSetB rfl) (by rfl) T.b_sorted (by decide +kernel) (pa_cons (pe_callTy (cr_setT rfl) (by rfl) T.b_set (by decide +kernel) (pa_cons (pv 1) pa_nil)) pa_nil)) pa_nil)) (nomark _))))), ?_⟩
  have LB := line_big
  obtain ⟨tw, w0, rs, rfl, htw, hw0, hT⟩ := id W
  rcases hd with ⟨nm, h, hn⟩ | ⟨a, xs, rfl, h, hl, hx⟩
  · refine ⟨_, rfl, t, _, _, _, _, rfl, .ty _, h.x, h.isi (.inr (.inr (.inl rfl))), _, rfl, ?_⟩
    have e : isiB nm "tuple" = false := by cases h <;> first | rfl | exact absurd rfl hn
    rw [e]
    have q0 := q H .refl
    rw [rdT_no h hn] at q0
    exact iteT (iteT q0)
  · rw [rdT_tup h] at q
    refine ⟨_, rfl, _, _, _, _, true, rfl, .ty _, (TyN.tup h).x, (TyN.tup h).isi (.inr (.inr (.inl rfl))), true, rfl, iteF ?_⟩
    refine ⟨_, rfl, by show 0 ≤ sizeLine; decide, fun z nz => ?_⟩
    have kz := Ke.new (S := fun _ => False) (o := .tup []) nz
    have h1 := Ke.tup kz h
    refine ⟨a, z, xs, rfl, rfl, sqT_of h1, sqT_of upd_same, _, rfl, ?_⟩
    generalize upd H z (.tup []) = H1 at *
    cases xs with
    | nil => exact iteT (q H1 kz)
    | cons x0 r0 =>
      refine iteF ?_
      generalize exs : x0 :: r0 = xs at *
      have htw1 := Ke.tup kz htw
      have tyx : ∀ x ∈ xs, ∃ nm, TyN H1 x nm := fun x hx' => by
        obtain ⟨nm, t⟩ := hx x hx'
        exact ⟨nm, t.ke kz⟩
      refine ⟨_, rfl, a, rfl, ⟨_, sqT_of h1⟩, fun D hD => ?_⟩
      refine lc_tup (K := K) (a := a) (xs := xs) (fun j G => Ke H1 G ∧ G D = some (.lst ((badN n (xs.take j)).map V.int))) ⟨Ke.new hD, upd_same⟩ (fun j G _ hG => ?_) (fun j x G hx' hG => ?_) (fun G hG => ?_)
      · exact sqT_of (hG.1.tup h1)
      · obtain ⟨kG, gD⟩ := hG
        obtain ⟨nm, ty⟩ := tyx x (List.mem_of_getElem? hx')
        refine ⟨rfl, _, rfl, _, rfl, tw, _, 0, _, rfl, rfl, sqT_of (kG.tup htw1), atI_nat (j := 0) rfl, _, _, rfl, rfl, x, 0, n - 1, nm, rfl, ty.ke kG, _, rfl, ?_⟩
        have hlb : (badN n (xs.take j)).length ≤ 1000 := by
          unfold badN
          rw [List.length_map]
          have a1 := List.length_filter_le (fun x => !isNum x 0 (n - 1)) (xs.take j)
          have a2 := List.length_take_le' j xs
          omega
        cases hb : isNum x 0 (n - 1) with
        | true =>
          refine iteF ⟨kG, ?_⟩
          rw [take_next hx', badN_snoc, if_pos hb, List.append_nil]
          exact gD
        | false =>
          refine iteT ⟨_, gD, by rw [List.length_map]; omega, kG.over hD, ?_⟩
          rw [take_next hx', badN_snoc, if_neg (by rw [hb]; decide), List.map_append]
          exact upd_same
      · obtain ⟨kG, gD⟩ := hG
        rw [List.take_length] at gD
        refine ⟨by show 0 ≤ sizeLine; decide, fun z2 nz2 => ?_⟩
        refine ⟨_, .list (([] : List Int).map PyData.int), .lst (sqL_of (lst_new nz2 gD)) (dp_ints _), .lst (sqL_of upd_same) .nil, shaped_Li _, shaped_Li [], _, rfl, ?_⟩
        rw [eqv_lints]
        have kk := kz.trans (kG.trans (Ke.new (o := .lst []) nz2))
        by_cases c : badN n xs = []
        · rw [decide_eq_true c]
          refine iteF ?_
          obtain ⟨ex, hr⟩ := isNum_ints (badN_nil.mp c)
          generalize intsOf xs = ls at *
          subst ex
          have hll : ls.length ≤ 1000 := by rw [List.length_map] at hl; exact hl
          have hne : ls ≠ [] := fun z => by
            rw [z] at exs
            cases exs
          have kk2 := kG.trans (Ke.new (o := .lst []) nz2)
          have h2 := Ke.tup kk2 h1
          generalize upd G z2 (.lst []) = G2 at *
          refine ⟨_, rfl, _, rfl, a, ls, rfl, sqT_of h2, hll, fun p c np hc => ?_⟩
          refine ⟨p, _, c, rfl, upd_same, by omega, fun ns p2 up hm hln np2 => ?_⟩
          refine ⟨p2, _, rfl, .inl ⟨sqL_of upd_same, fun l nl => ?_⟩⟩
          have k3 := ((Ke.new (S := fun _ => False) (o := SetO _ p (fun j => decide (j ∈ ls)) c) np).trans (Ke.new (o := .lst (ns.map V.int)) np2)).trans (Ke.new (o := .tup (ns.map V.int)) nl)
          refine ⟨.tuple (ls.map PyData.int), .tuple (ns.map PyData.int), .tup (sqT_of (Ke.tup k3 h2)) (dp_ints ls), .tup (sqT_of upd_same) (dp_ints ns), shaped_tints ls, shaped_tints ns, ?_⟩
          rw [eqv_itups]
          have q0 := q _ (kz.trans (kk2.trans k3))
          rw [lotO_sorted hne hr up (fun k => by rw [hm k, decide_eq_true_eq])] at q0
          exact q0
        · rw [decide_eq_false c]
          refine iteT ?_
          have q0 := q _ kk
          rw [lotO_bad c] at q0
          exact q0
theorem ok__law_is_reason {P : Program} {w : World} {K : PySem.W.Frag} {mg : Str → Option Value} {base : Heap} {tb : List Addr} {lt : List (Addr × Str)} {f : Addr} {fd : FuncData} {f__law_cheaper_within : Addr} {fd__law_cheaper_within : FuncData} {f__law_is_lot : Addr} {fd__law_is_lot : FuncData} (T : Blt mg) (D__law_is_reason : DefAt K mg "_law_is_reason" s_law_is_reason ["_law_web_here", "_law_k", "_law_prices_here", "_law_laying", "_law_tie_here", "_law_thing"] f fd) (LO : LtOk lt) (D__law_cheaper_within : DefAt K mg "_law_cheaper_within" s_law_cheaper_within ["_law_web_here", "_law_prices_here", "_law_laying", "_law_lot_here", "_law_tie_here", "_law_forest"] f__law_cheaper_within fd__law_cheaper_within) (G__law_cheaper_within : FnOk P w K mg base CX0 1 f__law_cheaper_within fd__law_cheaper_within ["_law_web_here", "_law_prices_here", "_law_laying", "_law_lot_here", "_law_tie_here", "_law_forest"] (sp__law_cheaper_within K tb)) (D__law_is_lot : DefAt K mg "_law_is_lot" s_law_is_lot ["_law_web_here", "_law_thing"] f__law_is_lot fd__law_is_lot) (G__law_is_lot : FnOk P w K mg base CX0 2 f__law_is_lot fd__law_is_lot ["_law_web_here", "_law_thing"] (sp__law_is_lot K tb)) :
    FnOk P w K mg base CX0 3 f fd ["_law_web_here", "_law_k", "_law_prices_here", "_law_laying", "_law_tie_here", "_law_thing"] (sp__law_is_reason K tb) := by
  refine D__law_is_reason.ok sc__law_is_reason (fun vs H Q E h => by
    obtain ⟨v, n, ts, k, pr, ps, u, ws, i, t, rfl, W, hok, hP, hu, hL, hi, hn0, hn1, hlen, hk0, hk1, hd, q⟩ := h
    all_goals rfl) fun A outer s H vs Q E hr h => ?_
  obtain ⟨v, n, ts, k, pr, ps, u, ws, i, t, rfl, W, hok, hP, hu, hL, hi, hn0, hn1, hlen, hk0, hk1, hd, q⟩ := h
  refine ⟨_, pss_cons (ps_if (PW.pt (pw_or (pt_not (pt_val (pe_call G__law_is_lot (hr.mono (by decide)) (by rfl) D__law_is_lot.g D__law_is_lot.F.kp D__law_is_lot.b .nil pass0 (pa_cons (pv 0) (pa_cons (pv 5) pa_nil))))) (pw_or (pt_cmpR (notIn_seqK (K := K)) (pe_ix (ix_tupK (K := K)) (pe_ix (ix_tupK (K := K)) (pe_ix (ix_tupK (K := K)) (pv 0) (pe_int) (fun _ _ => rfl)) (pv 4) (fun _ _ => rfl)) (pe_int) (fun _ _ => rfl)) (pv 5) (by rfl)) (pw_or1 (pt_cmpR (notIn_seqK (K := K)) (pe_ix (ix_tupK (K := K)) (pe_ix (ix_tupK (K := K)) (pe_ix (ix_tupK (K := K)) (pv 0) (pe_int) (fun _ _ => rfl)) (pv 4) (fun _ _ => rfl)) (pe_int) (fun _ _ => rfl)) (pv 5) (by rfl))))))
     (pss_one (ps_ret (pe_bl)))
     (pss_nil))
     (pss_cons (ps_for PassesOwn.never rfl (pi_range1 (by rfl) T.b_range (pa_cons (pv 1) pa_nil)) (pg_name (i := 6) sc__law_is_reason.nd rfl (.inl rfl))
     (pss_one (ps_if (pt_cmpR op_ne (pe_callB (lenK (K := K)) (by rfl) T.b_len PySem.boot_len (pa_cons (pe_call G__law_cheaper_within (hr.mono (by decide)) (by rfl) D__law_cheaper_within.g D__law_cheaper_within.F.kp D__law_cheaper_within.b .nil pass0 (pa_cons (pv 0) (pa_cons (pv 2) (pa_cons (pv 3) (pa_cons (pv 5) (pa_cons (pv 4) (pa_cons (pv 6) pa_nil))))))) pa_nil)) (pe_op op_sub (pe_callB (lenK (K := K)) (by rfl) T.b_len PySem.boot_len (pa_cons (pv 5) pa_nil)) (pe_int)) (nomark _))
     (pss_one (ps_ret (pe_bl)))
     (pss_nil))))
     (pss_one (ps_ret (pe_bl)))), ?_⟩
  have LB := line_big
  obtain ⟨tw, w0, rs, rfl, htw, hw0, hT⟩ := id W
  obtain ⟨⟨pa, rfl, gpr⟩, hpl⟩ := id hP
  refine ⟨_, rfl, _, rfl, _, n, ts, t, rfl, W, hn0, hn1, hd, fun H1 k1 => ?_⟩
  cases hlo : lotO n (rdT H t) with
  | false =>
    refine ⟨_, rfl, ?_⟩
    have q0 := q H1 k1
    unfold lotR at q0
    rw [hlo] at q0
    exact iteT (iteT q0)
  | true =>
    obtain ⟨nm, h, hn⟩ | ⟨b, xs, rfl, h, hl, hx⟩ := hd
    · rw [rdT_no h hn] at hlo
      cases hlo
    rw [rdT_tup h] at hlo q
    obtain ⟨hne, hr⟩ := lotO_rising hlo
    have ex := rising_ints hr
    obtain ⟨hup, hrg⟩ := rising_low hr
    generalize intsOf xs = ls at *
    subst ex
    have hlt : Lot n ls := ⟨fun z => hne (by rw [z]; rfl), hup, hrg⟩
    refine ⟨_, rfl, iteF ?_⟩
    have htw1 := k1.tup htw
    have hw01 := k1.tup hw0
    have h1 := k1.tup h
    have gpr1 := k1.tup gpr
    obtain ⟨q', he, hq'⟩ := tsN_at hT hi
    have hq1 := k1.tup hq'
    have flt : (ls.map V.int).all flatV = true := List.all_eq_true.mpr fun z hz => by
      obtain ⟨x, _, rfl⟩ := List.mem_map.mp hz
      rfl
    have etk : tk ts (i : Int) = ts.getD i (0, 0) := rfl
    have eq : lotR ts n k ps ws i (some (ls.map V.int)) = (decide ((ts.getD i (0, 0)).1 ∈ ls) && decide ((ts.getD i (0, 0)).2 ∈ ls) && decide ((inside ls (tsN ts (ldN ws (chL ps ts.length i))) : Int) = k * ((ls.length : Int) - 1))) := by
      unfold lotR
      rw [hlt.o, Bool.true_and]
      dsimp only
      rw [intsOf_int, List.length_map, etk]
    rw [eq] at q
    refine ⟨_, rfl, tw, _, 1, _, rfl, rfl, sqT_of htw1, atI_nat (j := 1) rfl, _, rfl, w0, _, (i : Int), _, rfl, rfl, sqT_of hw01, he, q', _, 0, _, rfl, rfl, sqT_of hq1, atI_nat (j := 0) rfl, _, rfl, b, _, rfl, .inr (sqT_of h1), rfl, flt, _, rfl, ?_⟩
    rw [show (if true = true then !inV (V.int (ts.getD i (0, 0)).1) (ls.map V.int) else inV (V.int (ts.getD i (0, 0)).1) (ls.map V.int)) = !decide ((ts.getD i (0, 0)).1 ∈ ls) by rw [if_pos rfl, inV_int]]
    by_cases c1 : (ts.getD i (0, 0)).1 ∈ ls
    case neg =>
      rw [decide_eq_false c1] at q ⊢
      exact iteT (iteT (q _ k1))
    rw [decide_eq_true c1] at q ⊢
    refine iteF ?_
    refine ⟨_, rfl, tw, _, 1, _, rfl, rfl, sqT_of htw1, atI_nat (j := 1) rfl, _, rfl, w0, _, (i : Int), _, rfl, rfl, sqT_of hw01, he, q', _, 1, _, rfl, rfl, sqT_of hq1, atI_nat (j := 1) rfl, _, rfl, b, _, rfl, .inr (sqT_of h1), rfl, flt, _, rfl, ?_⟩
    rw [show (if true = true then !inV (V.int (ts.getD i (0, 0)).2) (ls.map V.int) else inV (V.int (ts.getD i (0, 0)).2) (ls.map V.int)) = !decide ((ts.getD i (0, 0)).2 ∈ ls) by rw [if_pos rfl, inV_int]]
    by_cases c2 : (ts.getD i (0, 0)).2 ∈ ls
    case neg =>
      rw [decide_eq_false c2] at q ⊢
      exact iteT (q _ k1)
    rw [decide_eq_true c2] at q ⊢
    refine iteF ?_
    refine ⟨_, rfl, k, rfl, by omega, by omega, ?_⟩
    refine for_range (lo := 0) (n := k.toNat) (fun j σ G => ∃ (y6 : Option V), σ = [some (.ref tw), some (.int k), some (.ref pa), some (.ref u), some (.int (i : Int)), some (.ref b), y6] ∧ Ke H G ∧ ∀ f : Int, 0 ≤ f → f < (j : Int) → ((chW ts ps ws ls i f ts.length).length : Int) = (ls.length : Int) - 1) ⟨_, rfl, k1, fun f h0 h1 => absurd h1 (by omega)⟩ (fun j σ G hj hG => ?_) (fun σ G hG => ?_)
    · obtain ⟨y6, rfl, kG, hf⟩ := hG
      rw [Int.zero_add]
      refine ⟨_, rfl, _, rfl, _, rfl, _, rfl, _, rfl, _, rfl, _, n, ts, _, ps, u, ws, b, ls, i, (j : Int), rfl, W.ke kG, hP.ke kG, kG.tup hu, hL.len, hL.isO, kG.tup h, hi, hlen, fun G1 l kl nl gl => ?_⟩
      have kk := kG.trans kl
      refine ⟨l, _, rfl, .inl (sqL_of gl), _, rfl, b, _, rfl, .inr (sqT_of (Ke.tup kk h)), _, _, rfl, rfl, rfl, _, rfl, ?_⟩
      rw [decide_int, List.length_map, List.length_map]
      by_cases e : ((chW ts ps ws ls i (j : Int) ts.length).length : Int) = (ls.length : Int) - 1
      · rw [decide_eq_true e]
        refine iteF ⟨_, rfl, kk, fun f f0 f1 => ?_⟩
        by_cases ef : f = j
        · rw [ef]
          exact e
        · exact hf f f0 (by omega)
      · rw [decide_eq_false e]
        refine iteT ?_
        have q0 := q _ kk
        rw [decide_eq_false fun z => e ((reason_iff hL hk0 hlt).mp z j (by omega) (by omega))] at q0
        exact q0
    · obtain ⟨y6, rfl, kG, hf⟩ := hG
      have q0 := q _ kG
      rw [decide_eq_true ((reason_iff hL hk0 hlt).mpr fun f f0 f1 => hf f f0 (by omega))] at q0
      exact q0
theorem ok__law_is_laying {P : Program} {w : World} {K : PySem.W.Frag} {mg : Str → Option Value} {base : Heap} {tb : List Addr} {lt : List (Addr × Str)} {f : Addr} {fd : FuncData} {f__law_is_forest : Addr} {fd__law_is_forest : FuncData} {f__law_is_int : Addr} {fd__law_is_int : FuncData} (T : Blt mg) (D__law_is_laying : DefAt K mg "_law_is_laying" s_law_is_laying ["_law_web_here", "_law_k", "_law_thing"] f fd) (LO : LtOk lt) (D__law_is_forest : DefAt K mg "_law_is_forest" s_law_is_forest ["_law_points", "_law_ties"] f__law_is_forest fd__law_is_forest) (G__law_is_forest : FnOk P w K mg base CX0 2 f__law_is_forest fd__law_is_forest ["_law_points", "_law_ties"] (sp__law_is_forest K tb)) (D__law_is_int : DefAt K mg "_law_is_int" s_law_is_int ["_law_thing", "_law_least", "_law_most"] f__law_is_int fd__law_is_int) (G__law_is_int : FnOk P w K mg base CX0 1 f__law_is_int fd__law_is_int ["_law_thing", "_law_least", "_law_most"] (sp__law_is_int K tb)) :
    FnOk P w K mg base CX0 3 f fd ["_law_web_here", "_law_k", "_law_thing"] (sp__law_is_laying K tb) := by
  refine D__law_is_laying.ok sc__law_is_laying (fun vs H Q E h => by
    obtain ⟨v, t, n, ts, k, o, rfl, W, ht, hok, hn0, hn1, hlen, hk0, hk1, q⟩ := h
    all_goals rfl) fun A outer s H vs Q E hr h => ?_
  obtain ⟨v, t, n, ts, k, o, rfl, W, ht, hok, hn0, hn1, hlen, hk0, hk1, q⟩ := h
  refine ⟨_, pss_cons (ps_if (PW.pt (pw_or (pt_not (pt_val (pe_callB (isiK (K := K)) (by rfl) T.b_isinstance (by decide +kernel) (pa_cons (pv 2) (pa_cons (pe_bltn (v := .ty "tuple") (u := .type "tuple") (by rfl) T.b_tuple (by decide +kernel) rfl) pa_nil))))) (pw_or1 (pt_cmpR op_ne (pe_callB (lenK (K := K)) (by rfl) T.b_len PySem.boot_len (pa_cons (pv 2) pa_nil)) (pe_callB (lenK (K := K)) (by rfl) T.b_len PySem.boot_len (pa_cons (pe_ix (ix_tupK (K := K)) (pv 0) (pe_int) (fun _ _ => rfl)) pa_nil)) (nomark _)))))
     (pss_one (ps_ret (pe_bl)))
     (pss_nil))
     (pss_cons (ps_if (pt_cmpR (neDK (K := K) hr.units) (pe_lc (own := [("_law_one", 3)]) rfl sc__law_is_laying.nd (pi_tup (pv 2)) (blkOk_by (own := [("_law_one", 3)]) (N := nm__law_is_laying) (sc := defScope s_law_is_laying) (by decide +kernel)) (fun _ _ _ _ _ => pg_name (i := 3) sc__law_is_laying.nd rfl (.inl rfl)) (fun _ _ _ _ _ => pts_one (PW.pt (pw_and (pt_cmpR op_notN (pv 3) (pe_non) (nomark _)) (pw_and1 (pt_not (pt_val (pe_call G__law_is_int (hr.mono (by decide)) (by rfl) D__law_is_int.g D__law_is_int.F.kp D__law_is_int.b .nil pass0 (pa_cons (pv 3) (pa_cons (pe_int) (pa_cons (pe_op op_sub (pv 1) (pe_int)) pa_nil)))))))))) (fun _ _ _ _ _ => pe_int)) (pe_lst pa_nil) (nomark _))
     (pss_one (ps_ret (pe_bl)))
     (pss_nil))
     (pss_cons (ps_for PassesOwn.never rfl (pi_range1 (by rfl) T.b_range (pa_cons (pv 1) pa_nil)) (pg_name (i := 4) sc__law_is_laying.nd rfl (.inr rfl))
     (pss_one (ps_if (pt_not (pt_val (pe_call G__law_is_forest (hr.mono (by decide)) (by rfl) D__law_is_forest.g D__law_is_forest.F.kp D__law_is_forest.b .nil pass0 (pa_cons (pe_ix (ix_tupK (K := K)) (pv 0) (pe_int) (fun _ _ => rfl)) (pa_cons (pe_lc (own := [("_law_j", 5)]) rfl sc__law_is_laying.nd (pi_range1 (by rfl) T.b_range (pa_cons (pe_callB (lenK (K := K)) (by rfl) T.b_len PySem.boot_len (pa_cons (pv 2) pa_nil)) pa_nil)) (blkOk_by (own := [("_law_j", 5)]) (N := nm__law_is_laying) (sc := defScope s_law_is_laying) (by decide +kernel)) (fun _ _ _ _ _ => pg_name (i := 5) sc__law_is_laying.nd rfl (.inl rfl)) (fun _ _ _ _ _ => pts_one (pt_cmpR op_eq (pe_ix (ix_tupK (K := K)) (pv 2) (pv 5) (fun _ _ => rfl)) (pv 4) (nomark _))) (fun _ _ _ _ _ => pe_ix (ix_tupK (K := K)) (pe_ix (ix_tupK (K := K)) (pv 0) (pe_int) (fun _ _ => rfl)) (pv 5) (fun _ _ => rfl))) pa_nil)))))
     (pss_one (ps_ret (pe_bl)))
     (pss_nil))))
     (pss_one (ps_ret (pe_bl))))), ?_⟩
  have LB := line_big
  obtain ⟨tw, u, rs, rfl, htw, hu, hT⟩ := id W
  have hrl := hT.length
  cases ht with
  | @no _ nm h hn =>
    refine ⟨_, rfl, t, _, _, _, _, rfl, .ty _, h.x, h.isi (.inr (.inr (.inl rfl))), _, rfl, ?_⟩
    have e : isiB nm "tuple" = false := by cases h <;> first | rfl | exact absurd rfl hn
    rw [e]
    exact iteT (iteT (q H .refl))
  | @yes a ws h hx =>
    refine ⟨_, rfl, _, _, _, _, true, rfl, .ty _, (TyN.tup h).x, (TyN.tup h).isi (.inr (.inr (.inl rfl))), true, rfl, iteF ?_⟩
    refine ⟨_, rfl, a, _, rfl, .inr (sqT_of h), _, rfl, tw, _, 1, _, rfl, rfl, sqT_of htw, atI_nat (j := 1) rfl, u, _, rfl, .inr (sqT_of hu), rfl, _, rfl, ?_⟩
    rw [decide_int, hrl]
    by_cases hl : ws.length = ts.length
    case neg =>
      rw [decide_eq_false (by omega)]
      have q0 := q H .refl
      rw [layO_len hl] at q0
      exact iteT q0
    rw [decide_eq_true (by omega)]
    refine iteF ?_
    refine ⟨_, rfl, a, rfl, ⟨_, sqT_of h⟩, fun D hD => ?_⟩
    refine lc_tup (K := K) (a := a) (xs := ws) (fun j G => ∃ c, Ke H G ∧ G D = some (.lst ((List.replicate c (1 : Int)).map V.int)) ∧ c ≤ j ∧ (c = 0 → ∀ x ∈ ws.take j, okE k x = true) ∧ (c ≠ 0 → ∃ x ∈ ws, okE k x = false)) ⟨0, Ke.new hD, upd_same, Nat.le_refl _, (fun _ _ z => nomatch z), fun z => absurd rfl z⟩ (fun j G _ hG => ?_) (fun j x G hxi hG => ?_) (fun G hG => ?_)
    · obtain ⟨_, kG, _⟩ := hG
      exact sqT_of (kG.tup h)
    · obtain ⟨c, kG, gD, hc, h0, h1⟩ := hG
      have hxm := List.mem_of_getElem? hxi
      have hj := (List.getElem?_eq_some_iff.mp hxi).1
      obtain ⟨nm, hty⟩ := hx x hxm
      have next : okE k x = true → c = 0 → ∀ y ∈ ws.take (j + 1), okE k y = true := fun e z y hy => by
        rw [take_next hxi] at hy
        rcases List.mem_append.mp hy with hy | hy
        · exact h0 z y hy
        · rw [List.mem_singleton.mp hy]
          exact e
      refine ⟨rfl, _, rfl, rfl, _, rfl, iteB (fun hb => ?_) (fun hb => ?_)⟩
      · have hb : (!decide (x = V.non)) = true := hb
        have hne : x ≠ .non := fun z => by
          rw [decide_eq_true z] at hb
          cases hb
        have eo : okE k x = isNum x 0 (k - 1) := by
          cases x with
          | non => exact absurd rfl hne
          | _ => rfl
        refine ⟨_, rfl, _, rfl, _, _, rfl, rfl, x, 0, k - 1, nm, rfl, hty.ke kG, _, rfl, ?_⟩
        cases e : isNum x 0 (k - 1) with
        | true => exact iteF ⟨c, kG, gD, by omega, next (eo.trans e), h1⟩
        | false =>
          refine iteT ⟨_, gD, by rw [List.length_map, List.length_replicate]; omega, c + 1, kG.over hD, ?_, by omega, (fun z => absurd z (Nat.succ_ne_zero c)), fun _ => ⟨x, hxm, eo.trans e⟩⟩
          rw [upd_same, List.replicate_succ', List.map_append]
          rfl
      · have hb : (!decide (x = V.non)) = false := hb
        have hno : x = .non := by
          by_cases z : x = .non
          · exact z
          · rw [decide_eq_false z] at hb
            cases hb
        exact iteF ⟨c, kG, gD, by omega, next (by rw [hno]; rfl), h1⟩
    · obtain ⟨c, kG, gD, hc, h0, h1⟩ := hG
      refine ⟨by show 0 ≤ sizeLine; decide, fun z2 nz2 => ?_⟩
      refine ⟨_, .list (([] : List Int).map PyData.int), .lst (sqL_of (lst_new nz2 gD)) (dp_ints _), .lst (sqL_of upd_same) .nil, shaped_Li _, shaped_Li [], _, rfl, ?_⟩
      rw [eqv_lints]
      have kk := kG.trans (Ke.new (o := .lst []) nz2)
      by_cases z : c = 0
      case neg =>
        obtain ⟨x, hxm, e⟩ := h1 z
        rw [decide_eq_false (fun y => z (by have := congrArg List.length y; rw [List.length_replicate] at this; exact this))]
        have q0 := q _ kk
        rw [layO_bad hxm e] at q0
        exact iteT q0
      have hoke := h0 z
      rw [decide_eq_true (by rw [z]; rfl)]
      refine iteF ?_
      generalize upd G z2 (.lst []) = G1 at *
      have htw1 := Ke.tup kk htw
      have hu1 := Ke.tup kk hu
      have h1' := Ke.tup kk h
      have hT1 : Ties G1 rs ts := hT.ke kk
      refine ⟨_, rfl, k, rfl, by omega, by omega, ?_⟩
      refine for_range (lo := 0) (n := k.toNat) (fun i σ G => ∃ (y3 y4 y5 : Option V), σ = [some (.ref tw), some (.int k), some (.ref a), y3, y4, y5] ∧ Ke G1 G ∧ ∀ f : Int, 0 ≤ f → f < (i : Int) → ringlessF (fun x => x) (layerOf ts ws f) = true) ⟨_, _, _, rfl, .refl, fun f h0 h1 => absurd h1 (by omega)⟩ (fun i σ G hi hG => ?_) (fun σ G hG => ?_)
      · obtain ⟨y3, y4, y5, rfl, kG2, hf⟩ := hG
        rw [Int.zero_add]
        refine ⟨_, rfl, tw, _, 0, _, rfl, rfl, sqT_of (kG2.tup htw1), atI_nat (j := 0) rfl, ?_⟩
        refine ⟨_, rfl, a, _, rfl, .inr (sqT_of (kG2.tup h1')), ?_⟩
        rw [hl]
        refine ⟨ts.length, rfl, by omega, by omega, fun D2 hD2 => ?_⟩
        refine lc_range (lo := 0) (n := ts.length) (fun j G2 => ∃ qs, Ke G G2 ∧ G2 D2 = some (.lst qs) ∧ Ties G2 qs (tsN ts ((List.range j).filter fun i' => decide (ws.getD i' .non = V.int (i : Int)))) ∧ qs.length ≤ j) ⟨[], Ke.new hD2, upd_same, .nil, Nat.le_refl _⟩ (fun j G2 hj hG => ?_) (fun G2 hG => ?_)
        · obtain ⟨qs, k2, gD2, gT, hql⟩ := hG
          rw [Int.zero_add]
          have kG3 := kG2.trans k2
          obtain ⟨y, hy⟩ : ∃ y, ws[j]? = some y := ⟨_, List.getElem?_eq_getElem (by omega)⟩
          have hyd : ws.getD j .non = y := by rw [List.getD_eq_getElem?_getD, hy]; rfl
          have hO := okE_O (hoke y (List.mem_of_getElem? (by rw [List.take_length]; exact hy)))
          obtain ⟨q', he, hq'⟩ := tsN_at hT1 hj
          refine ⟨rfl, _, rfl, _, rfl, a, _, (j : Int), _, rfl, rfl, sqT_of (Ke.tup kG3 h1'), atI_nat (j := j) hy, _, rfl, hO.scal (i : Int), _, rfl, iteB (fun hb => ?_) (fun hb => ?_)⟩
          · refine ⟨_, rfl, tw, _, 1, _, rfl, rfl, sqT_of (Ke.tup kG3 htw1), atI_nat (j := 1) rfl, _, rfl, u, _, (j : Int), _, rfl, rfl, sqT_of (Ke.tup kG3 hu1), he, qs, gD2, by omega, qs ++ [.ref q'], k2.over hD2, upd_same, ?_, by rw [List.length_append]; exact Nat.succ_le_succ hql⟩
            rw [List.range_succ, List.filter_append, List.filter_cons, if_pos (by rw [hyd]; exact hb), tsN_app]
            exact (gT.pickN (Ke.tup kG3 hq')).put gD2
          · refine ⟨qs, k2, gD2, ?_, by omega⟩
            rw [List.range_succ, List.filter_append, List.filter_cons, if_neg (by rw [hyd]; exact Bool.eq_false_iff.mp hb), List.filter_nil, List.append_nil]
            exact gT
        · obtain ⟨qs, k2, gD2, gT, hql⟩ := hG
          rw [← lay_tsN hl (i : Int)] at gT
          refine ⟨n, D2, qs, _, rfl, gD2, gT, (fun t ht => hok t (by
            unfold layerOf at ht
            obtain ⟨p, hp, rfl⟩ := List.mem_map.mp ht
            exact (List.of_mem_zip (a := p.1) (b := p.2) (List.mem_filter.mp hp).1).1)), hn0, hn1, fun G3 k3 => ⟨_, rfl, ?_⟩⟩
          have kG4 := kG2.trans (k2.trans k3)
          cases hr : ringlessF (fun x => x) (layerOf ts ws (i : Int)) with
          | true =>
            refine iteF ⟨_, _, _, rfl, kG4, fun f f0 f1 => ?_⟩
            by_cases ef : f = i
            · rw [ef]
              exact hr
            · exact hf f f0 (by omega)
          | false =>
            refine iteT ?_
            have hm : V.int (i : Int) ∈ ws := Classical.byContradiction fun hno => by
              have e0 : (List.range ts.length).filter (fun i' => decide (ws.getD i' .non = V.int (i : Int))) = [] := List.filter_eq_nil_iff.mpr fun j hj z => hno (by
                have z := of_decide_eq_true z
                have jl : j < ws.length := by have := List.mem_range.mp hj; omega
                rw [List.getD_eq_getElem?_getD, List.getElem?_eq_getElem jl] at z
                have z : ws[j] = V.int (i : Int) := z
                rw [← z]
                exact List.getElem_mem jl)
              rw [lay_tsN hl, e0] at hr
              cases hr
            have q0 := q _ (kk.trans kG4)
            rw [layO_ring hm hr] at q0
            exact q0
      · obtain ⟨y3, y4, y5, rfl, kG2, hf⟩ := hG
        have q0 := q _ (kk.trans kG2)
        rw [layO_good hl (fun x hxm => hoke x (by rw [List.take_length]; exact hxm)) fun f hfm => by
          have e := hoke (.int f) (by rw [List.take_length]; exact hfm)
          have e : (decide (0 ≤ f) && decide (f ≤ k - 1)) = true := e
          obtain ⟨e1, e2⟩ := Bool.and_eq_true_iff.mp e
          have e1 := of_decide_eq_true e1
          have e2 := of_decide_eq_true e2
          exact hf f e1 (by omega)] at q0
        exact q0
theorem ok__law_is_cheapest {P : Program} {w : World} {K : PySem.W.Frag} {mg : Str → Option Value} {base : Heap} {tb : List Addr} {lt : List (Addr × Str)} {f : Addr} {fd : FuncData} {f__law_is_reason : Addr} {fd__law_is_reason : FuncData} {f__law_is_laying : Addr} {fd__law_is_laying : FuncData} (T : Blt mg) (D__law_is_cheapest : DefAt K mg "_law_is_cheapest" s_law_is_cheapest ["_law_web_here", "_law_k", "_law_prices_here", "_law_thing"] f fd) (LO : LtOk lt) (D__law_is_reason : DefAt K mg "_law_is_reason" s_law_is_reason ["_law_web_here", "_law_k", "_law_prices_here", "_law_laying", "_law_tie_here", "_law_thing"] f__law_is_reason fd__law_is_reason) (G__law_is_reason : FnOk P w K mg base CX0 3 f__law_is_reason fd__law_is_reason ["_law_web_here", "_law_k", "_law_prices_here", "_law_laying", "_law_tie_here", "_law_thing"] (sp__law_is_reason K tb)) (D__law_is_laying : DefAt K mg "_law_is_laying" s_law_is_laying ["_law_web_here", "_law_k", "_law_thing"] f__law_is_laying fd__law_is_laying) (G__law_is_laying : FnOk P w K mg base CX0 3 f__law_is_laying fd__law_is_laying ["_law_web_here", "_law_k", "_law_thing"] (sp__law_is_laying K tb)) :
    FnOk P w K mg base CX0 4 f fd ["_law_web_here", "_law_k", "_law_prices_here", "_law_thing"] (sp__law_is_cheapest K tb) := by
  refine D__law_is_cheapest.ok sc__law_is_cheapest (fun vs H Q E h => by
    obtain ⟨v, n, ts, k, pr, ps, t, rfl, W, hok, hP, hn0, hn1, hlen, hk0, hk1, hd, q⟩ := h
    all_goals rfl) fun A outer s H vs Q E hr h => ?_
  obtain ⟨v, n, ts, k, pr, ps, t, rfl, W, hok, hP, hn0, hn1, hlen, hk0, hk1, hd, q⟩ := h
  refine ⟨_, pss_cons (ps_if (PW.pt (pw_or (pt_not (pt_val (pe_callB (isiK (K := K)) (by rfl) T.b_isinstance (by decide +kernel) (pa_cons (pv 3) (pa_cons (pe_bltn (v := .ty "tuple") (u := .type "tuple") (by rfl) T.b_tuple (by decide +kernel) rfl) pa_nil))))) (pw_or (pt_cmpR op_ne (pe_callB (lenK (K := K)) (by rfl) T.b_len PySem.boot_len (pa_cons (pv 3) pa_nil)) (pe_int) (nomark _)) (pw_or1 (pt_not (pt_val (pe_call G__law_is_laying (hr.mono (by decide)) (by rfl) D__law_is_laying.g D__law_is_laying.F.kp D__law_is_laying.b .nil pass0 (pa_cons (pv 0) (pa_cons (pv 1) (pa_cons (pe_ix (ix_tupK (K := K)) (pv 3) (pe_int) (fun _ _ => rfl)) pa_nil))))))))))
     (pss_one (ps_ret (pe_bl)))
     (pss_nil))
     (pss_cons (ps_asg (pv 3) (tgtK (K := K) (n := 2) (pgs_cons (pg_name (i := 4) sc__law_is_cheapest.nd rfl (.inl rfl)) (pgs_cons (pg_name (i := 5) sc__law_is_cheapest.nd rfl (.inl rfl)) pgs_nil))))
     (pss_cons (ps_if (PW.pt (pw_or (pt_not (pt_val (pe_callB (isiK (K := K)) (by rfl) T.b_isinstance (by decide +kernel) (pa_cons (pv 5) (pa_cons (pe_bltn (v := .ty "tuple") (u := .type "tuple") (by rfl) T.b_tuple (by decide +kernel) rfl) pa_nil))))) (pw_or1 (pt_cmpR op_ne (pe_callB (lenK (K := K)) (by rfl) T.b_len PySem.boot_len (pa_cons (pv 5) pa_nil)) (pe_callB (lenK (K := K)) (by rfl) T.b_len PySem.boot_len (pa_cons (pv 4) pa_nil)) (nomark _)))))
     (pss_one (ps_ret (pe_bl)))
     (pss_nil))
     (pss_cons (ps_for PassesOwn.never rfl (pi_range1 (by rfl) T.b_range (pa_cons (pe_callB (lenK (K := K)) (by rfl) T.b_len PySem.boot_len (pa_cons (pv 4) pa_nil)) pa_nil)) (pg_name (i := 6) sc__law_is_cheapest.nd rfl (.inl rfl))
     (pss_cons (ps_set (i := 7) sc__law_is_cheapest.nd rfl (.inl rfl) (pe_ix (ix_tupK (K := K)) (pv 5) (pv 6) (fun _ _ => rfl)))
     (pss_cons (ps_if (PW.pt (pw_and (pt_cmpR op_notN (pe_ix (ix_tupK (K := K)) (pv 4) (pv 6) (fun _ _ => rfl)) (pe_non) (nomark _)) (pw_and1 (pt_cmpR op_notN (pv 7) (pe_non) (nomark _)))))
     (pss_one (ps_ret (pe_bl)))
     (pss_nil))
     (pss_one (ps_if (pt_cmpR op_isN (pe_ix (ix_tupK (K := K)) (pv 4) (pv 6) (fun _ _ => rfl)) (pe_non) (nomark _))
     (pss_one (ps_if (pt_not (pt_val (pe_call G__law_is_reason (hr.mono (by decide)) (by rfl) D__law_is_reason.g D__law_is_reason.F.kp D__law_is_reason.b .nil pass0 (pa_cons (pv 0) (pa_cons (pv 1) (pa_cons (pv 2) (pa_cons (pv 4) (pa_cons (pv 6) (pa_cons (pv 7) pa_nil)))))))))
     (pss_one (ps_ret (pe_bl)))
     (pss_nil)))
     (pss_nil))))))
     (pss_one (ps_ret (pe_bl)))))), ?_⟩
  have LB := line_big
  rcases hd with ⟨nm, h, hn⟩ | ⟨x, xy, rfl, hx, hxl, hxd⟩
  · refine ⟨_, rfl, _, _, _, _, _, rfl, .ty _, h.x, isi_no h hn, _, rfl, ?_⟩
    have q0 := q H .refl
    unfold cheapB at q0
    rw [rdT_no h hn] at q0
    exact iteT (iteT q0)
  refine ⟨_, rfl, _, _, _, _, true, rfl, .ty _, (TyN.tup hx).x, isi_yes, true, rfl, iteF ?_⟩
  refine ⟨_, rfl, x, _, rfl, .inr (sqT_of hx), rfl, _, rfl, ?_⟩
  unfold cheapB at q
  rw [rdT_tup hx] at q
  by_cases c : xy.length = 2
  rotate_left
  · rw [decide_int, decide_eq_false (p := (xy.length : Int) = 2) (by omega)]
    refine iteT (iteT ?_)
    have q0 := q H .refl
    match xy, c, q0 with
    | [], _, q0 => exact q0
    | [_], _, q0 => exact q0
    | [_, _], c, _ => exact absurd rfl c
    | _ :: _ :: _ :: _, _, q0 => exact q0
  obtain ⟨L, R, rfl⟩ : ∃ e r, xy = [e, r] := by
    match xy, c with
    | [e, r], _ => exact ⟨e, r, rfl⟩
  rw [decide_int, decide_eq_true (p := (([L, R] : List V).length : Int) = 2) rfl]
  refine iteF ?_
  have dL : DT (1 + 1) H L := hxd L List.mem_cons_self
  have dR : DT (1 + 1) H R := hxd R (List.mem_cons_of_mem _ List.mem_cons_self)
  dsimp only at q
  refine ⟨_, rfl, _, rfl, _, rfl, x, _, 0, _, rfl, rfl, sqT_of hx, atI_nat (j := 0) rfl, ?_⟩
  refine ⟨v, L, n, ts, k, rdT H L, rfl, W, dL.tpl, hok, hn0, hn1, hlen, hk0, hk1, fun H1 k1 => ⟨_, rfl, ?_⟩⟩
  cases hlay : layO ts k (rdT H L) with
  | false =>
    have q0 := q _ k1
    rw [hlay, Bool.false_and] at q0
    exact iteT q0
  | true =>
    refine iteF ?_
    rw [hlay, Bool.true_and] at q
    rcases dL with ⟨nm, h, hn⟩ | ⟨u, ws, rfl, hu, hul, hud⟩
    · rw [rdT_no h hn] at hlay
      cases hlay
    rw [rdT_tup hu] at hlay q
    have hL := layO_k hlay
    have hwl := hL.len
    rw [Option.getD_some] at q
    refine ⟨_, rfl, x, _, rfl, sqT_of (k1.tup hx), rfl, _, _, rfl, _, [], rfl, rfl, ?_⟩
    have hu1 := k1.tup hu
    rcases id dR with ⟨nm, h, hn⟩ | ⟨rt, ys, rfl, hrt, hyl, hyd⟩
    · refine ⟨_, rfl, _, _, _, _, _, rfl, .ty _, (h.ke k1).x, isi_no (h.ke k1) hn, _, rfl, ?_⟩
      have q0 := q _ k1
      rw [rdT_no h hn] at q0
      exact iteT (iteT q0)
    rw [rdT_tup hrt] at q
    dsimp only at q
    have hrt1 := Ke.tup k1 hrt
    refine ⟨_, rfl, _, _, _, _, true, rfl, .ty _, (TyN.tup hrt1).x, isi_yes, true, rfl, iteF ?_⟩
    refine ⟨_, rfl, rt, _, rfl, .inr (sqT_of hrt1), _, rfl, u, _, rfl, .inr (sqT_of hu1), rfl, _, rfl, ?_⟩
    rw [decide_int, hwl]
    by_cases cl : (ys.length : Int) = (ts.length : Int)
    rotate_left
    · rw [decide_eq_false cl]
      have q0 := q _ k1
      rw [reasA_len cl] at q0
      exact iteT q0
    rw [decide_eq_true cl]
    refine iteF ?_
    refine ⟨_, rfl, u, _, rfl, .inr (sqT_of hu1), ?_⟩
    rw [hwl]
    refine ⟨ts.length, rfl, by omega, by omega, ?_⟩
    refine for_range (lo := 0) (n := ts.length) (fun i σ G => ∃ (y6 y7 : Option V), σ = [some v, some (.int k), some pr, some (.ref x), some (.ref u), some (.ref rt), y6, y7] ∧ Ke H G ∧ ∀ (j : Nat) r, j < i → ys[j]? = some r → reasB ts n k ps ws j H r = true) ⟨_, _, rfl, k1, fun j r hj => absurd hj (Nat.not_lt_zero _)⟩ (fun i σ G hi hG => ?_) (fun σ G hG => ?_)
    · obtain ⟨y6, y7, rfl, kG, hrs⟩ := hG
      rw [Int.zero_add]
      obtain ⟨r, hr⟩ : ∃ r, ys[i]? = some r := ⟨_, List.getElem?_eq_getElem (by omega)⟩
      obtain ⟨y, hy⟩ : ∃ y, ws[i]? = some y := ⟨_, List.getElem?_eq_getElem (by omega)⟩
      have hrtG := kG.tup hrt
      have huG := kG.tup hu
      have dr : DT 1 H r := hyd r (List.mem_of_getElem? hr)
      have step : reasB ts n k ps ws i H r = true → ∀ (j : Nat) r', j < i + 1 → ys[j]? = some r' → reasB ts n k ps ws j H r' = true := fun hz j r' hj hr' => by
        rcases Nat.lt_succ_iff_lt_or_eq.mp hj with z | rfl
        · exact hrs j r' z hr'
        · rw [hr] at hr'
          cases hr'
          exact hz
      have bad : reasB ts n k ps ws i H r = false → ∀ G', Ke H G' → Q (.bl false) G' := fun hz G' kz => by
        have q0 := q _ kz
        rw [reasA_no hr hz] at q0
        exact q0
      refine ⟨_, rfl, _, rfl, rt, _, (i : Int), _, rfl, rfl, sqT_of hrtG, atI_nat (j := i) hr, ?_⟩
      refine ⟨_, rfl, _, rfl, u, _, (i : Int), _, rfl, rfl, sqT_of huG, atI_nat (j := i) hy, rfl, _, rfl, ?_⟩
      by_cases c1 : y = V.non
      · rw [decide_eq_true c1]
        refine iteF (iteF ?_)
        refine ⟨_, rfl, _, rfl, u, _, (i : Int), _, rfl, rfl, sqT_of huG, atI_nat (j := i) hy, rfl, _, rfl, ?_⟩
        rw [decide_eq_true c1]
        refine iteT ?_
        subst c1
        have hb : reasB ts n k ps ws i H r = lotR ts n k ps ws i (rdT H r) := by
          unfold reasB
          rw [if_pos hy]
        refine ⟨_, rfl, _, rfl, _, rfl, _, rfl, _, rfl, _, rfl, v, n, ts, k, pr, ps, u, ws, i, r, rfl, W.ke kG, hok, hP.ke kG, huG, hL, hi, hn0, hn1, by omega, hk0, hk1, dr.ke kG, fun G2 k2 => ⟨_, rfl, ?_⟩⟩
        rw [dr.rd kG, ← hb]
        have kk := kG.trans k2
        cases hz : reasB ts n k ps ws i H r with
        | false => exact iteT (bad hz _ kk)
        | true => exact iteF ⟨_, _, rfl, kk, step hz⟩
      · rw [decide_eq_false c1]
        refine iteT ?_
        have hb : reasB ts n k ps ws i H r = decide (r = V.non) := by
          unfold reasB
          rw [if_neg fun z => c1 (Option.some.inj (hy.symm.trans z))]
        refine ⟨_, rfl, rfl, _, rfl, ?_⟩
        by_cases c2 : r = V.non
        · rw [decide_eq_true c2] at hb ⊢
          refine iteF ?_
          refine ⟨_, rfl, _, rfl, u, _, (i : Int), _, rfl, rfl, sqT_of huG, atI_nat (j := i) hy, rfl, _, rfl, ?_⟩
          rw [decide_eq_false c1]
          exact iteF ⟨_, _, rfl, kG, step hb⟩
        · rw [decide_eq_false c2] at hb ⊢
          exact iteT (bad hb _ kG)
    · obtain ⟨y6, y7, rfl, kG, hrs⟩ := hG
      have q0 := q _ kG
      rw [reasA_yes cl fun j r hj => hrs j r (by have := (List.getElem?_eq_some_iff.mp hj).1; omega) hj] at q0
      exact q0
theorem ok__law_paper {P : Program} {w : World} {K : PySem.W.Frag} {mg : Str → Option Value} {base : Heap} {tb : List Addr} {lt : List (Addr × Str)} {f : Addr} {fd : FuncData} {f__law_next : Addr} {fd__law_next : FuncData} {f__law_lots : Addr} {fd__law_lots : FuncData} {f__law_cheapest : Addr} {fd__law_cheapest : FuncData} {f__law_spread : Addr} {fd__law_spread : FuncData} {f__law_is_reason : Addr} {fd__law_is_reason : FuncData} (T : Blt mg) (D__law_paper : DefAt K mg "_law_paper" s_law_paper ["_law_deck_here", "_law_web_here", "_law_k", "_law_prices_here"] f fd) (LO : LtOk lt) (D__law_next : DefAt K mg "_law_next" s_law_next ["_law_deck_here"] f__law_next fd__law_next) (G__law_next : FnOk P w K mg base CX0 1 f__law_next fd__law_next ["_law_deck_here"] (sp__law_next K tb)) (D__law_lots : DefAt K mg "_law_lots" s_law_lots ["_law_points"] f__law_lots fd__law_lots) (G__law_lots : FnOk P w K mg base CX0 1 f__law_lots fd__law_lots ["_law_points"] (sp__law_lots K tb)) (D__law_cheapest : DefAt K mg "_law_cheapest" s_law_cheapest ["_law_web_here", "_law_k", "_law_prices_here"] f__law_cheapest fd__law_cheapest) (G__law_cheapest : FnOk P w K mg base CX0 5 f__law_cheapest fd__law_cheapest ["_law_web_here", "_law_k", "_law_prices_here"] (sp__law_cheapest K tb lt)) (D__law_spread : DefAt K mg "_law_spread" s_law_spread ["_law_points", "_law_ties", "_law_k"] f__law_spread fd__law_spread) (G__law_spread : FnOk P w K mg base CX0 3 f__law_spread fd__law_spread ["_law_points", "_law_ties", "_law_k"] (sp__law_spread K tb)) (D__law_is_reason : DefAt K mg "_law_is_reason" s_law_is_reason ["_law_web_here", "_law_k", "_law_prices_here", "_law_laying", "_law_tie_here", "_law_thing"] f__law_is_reason fd__law_is_reason) (G__law_is_reason : FnOk P w K mg base CX0 3 f__law_is_reason fd__law_is_reason ["_law_web_here", "_law_k", "_law_prices_here", "_law_laying", "_law_tie_here", "_law_thing"] (sp__law_is_reason K tb)) :
    FnOk P w K mg base CX0 6 f fd ["_law_deck_here", "_law_web_here", "_law_k", "_law_prices_here"] (sp__law_paper K tb lt) := by
  refine D__law_paper.ok sc__law_paper (fun vs H Q E h => by
    obtain ⟨p, v, n, ts, k, pr, ps, rfl, hd, W, hP, hok, hn1, hn, hlen, hk0, hk1, hLT, q⟩ := h
    all_goals rfl) fun A outer s H vs Q E hr h => ?_
  obtain ⟨p, v, n, ts, k, pr, ps, rfl, hd, W, hP, hok, hn1, hn, hlen, hk0, hk1, hLT, q⟩ := h
  refine ⟨_, pss_cons (ps_set (i := 4) sc__law_paper.nd rfl (.inl rfl) (pe_call G__law_cheapest (hr.mono (by decide)) (by rfl) D__law_cheapest.g D__law_cheapest.F.kp D__law_cheapest.b .nil pass0 (pa_cons (pv 1) (pa_cons (pv 2) (pa_cons (pv 3) pa_nil)))))
     (pss_cons (ps_set (i := 6) sc__law_paper.nd rfl (.inl rfl) (pe_call G__law_spread (hr.mono (by decide)) (by rfl) D__law_spread.g D__law_spread.F.kp D__law_spread.b .nil pass0 (pa_cons (pe_ix (ix_tupK (K := K)) (pv 1) (pe_int) (fun _ _ => rfl)) (pa_cons (pe_lc (own := [("_law_tie_here", 5)]) rfl sc__law_paper.nd (pi_list (pv 4)) (blkOk_by (own := [("_law_tie_here", 5)]) (N := nm__law_paper) (sc := defScope s_law_paper) (by decide +kernel)) (fun _ _ _ _ _ => pg_name (i := 5) sc__law_paper.nd rfl (.inl rfl)) (fun _ _ _ _ _ => pts_nil) (fun _ _ _ _ _ => pe_ix (ix_tupK (K := K)) (pe_ix (ix_tupK (K := K)) (pv 1) (pe_int) (fun _ _ => rfl)) (pv 5) (fun _ _ => rfl))) (pa_cons (pv 2) pa_nil)))))
     (pss_cons (ps_set (i := 7) sc__law_paper.nd rfl (.inr rfl) (pe_op op_mod (pe_call G__law_next (hr.mono (by decide)) (by rfl) D__law_next.g D__law_next.F.kp D__law_next.b .nil pass0 (pa_cons (pv 0) pa_nil)) (pe_callB (call_max2 rfl) (by rfl) T.b_max (by decide +kernel) (pa_cons (pe_int) (pa_cons (pv 2) pa_nil)))))
     (pss_cons (ps_set (i := 9) sc__law_paper.nd rfl (.inr rfl) (pe_dictZip rfl (by rfl) T.b_dict (by rfl) T.b_zip (pa_cons (pv 4) (pa_cons (pe_lc (own := [("_law_forest", 8)]) rfl sc__law_paper.nd (pi_list (pv 6)) (blkOk_by (own := [("_law_forest", 8)]) (N := nm__law_paper) (sc := defScope s_law_paper) (by decide +kernel)) (fun _ _ _ _ _ => pg_name (i := 8) sc__law_paper.nd rfl (.inl rfl)) (fun _ _ _ _ _ => pts_nil) (fun _ _ _ _ _ => pe_op op_mod (pe_op op_add (pv 8) (pv 7)) (pv 2))) pa_nil))))
     (pss_cons (ps_set (i := 10) sc__law_paper.nd rfl (.inr rfl) (pe_callTy (tupleK (K := K)) (by rfl) T.b_tuple (by decide +kernel) (pa_cons (pe_lc (own := [("_law_tie_here", 5)]) rfl sc__law_paper.nd (pi_range1 (by rfl) T.b_range (pa_cons (pe_callB (lenK (K := K)) (by rfl) T.b_len PySem.boot_len (pa_cons (pv 3) pa_nil)) pa_nil)) (blkOk_by (own := [("_law_tie_here", 5)]) (N := nm__law_paper) (sc := defScope s_law_paper) (by decide +kernel)) (fun _ _ _ _ _ => pg_name (i := 5) sc__law_paper.nd rfl (.inl rfl)) (fun _ _ _ _ _ => pts_nil) (fun _ _ _ _ _ => pe_dget2 (hu_of hr) (pv 9) (pv 5) (pe_non) ⟨rfl, rfl, rfl, rfl⟩)) pa_nil)))
     (pss_cons (ps_set (i := 11) sc__law_paper.nd rfl (.inl rfl) (pe_lst pa_nil))
     (pss_cons (ps_for PassesOwn.never rfl (pi_range1 (by rfl) T.b_range (pa_cons (pe_callB (lenK (K := K)) (by rfl) T.b_len PySem.boot_len (pa_cons (pv 3) pa_nil)) pa_nil)) (pg_name (i := 5) sc__law_paper.nd rfl (.inr rfl))
     (pss_cons (ps_set (i := 12) sc__law_paper.nd rfl (.inl rfl) (pe_lst (pa_cons (pe_non) pa_nil)))
     (C8.pss_cut (ps_if (pt_cmpR op_isN (pe_ix (ix_tupK (K := K)) (pv 10) (pv 5) (fun _ _ => rfl)) (pe_non) (nomark _))
     (pss_one (ps_setLc (i := 12) (own := [("_law_lot_here", 13)]) rfl sc__law_paper.nd rfl rfl (sw_true rfl rfl rfl (by decide +kernel)) (pi_list (pe_call G__law_lots (hr.mono (by decide)) (by rfl) D__law_lots.g D__law_lots.F.kp D__law_lots.b .nil pass0 (pa_cons (pe_ix (ix_tupK (K := K)) (pv 1) (pe_int) (fun _ _ => rfl)) pa_nil))) (blkOk_by (own := [("_law_lot_here", 13)]) (N := nm__law_paper) (sc := defScope s_law_paper) (by decide +kernel)) (fun _ _ _ _ _ => pg_name (i := 13) sc__law_paper.nd rfl (.inl rfl)) (fun _ _ _ _ _ => pts_one (pt_val (pe_call G__law_is_reason (hr.mono (by decide)) (by rfl) D__law_is_reason.g D__law_is_reason.F.kp D__law_is_reason.b .nil pass0 (pa_cons (pv 1) (pa_cons (pv 2) (pa_cons (pv 3) (pa_cons (pv 10) (pa_cons (pv 5) (pa_cons (pv 13) pa_nil))))))))) (fun _ _ _ _ _ => pv 13)))
     (pss_nil))
     (pss_one (ps_expr (pe_bm PySem.F.plainAttrs_list PySem.F.slot_list_append PySem.F.type_list_append mt_append (pv 11) (pa_cons (pe_ix (ix_listK (K := K)) (pv 12) (pe_op op_mod (pe_call G__law_next (hr.mono (by decide)) (by rfl) D__law_next.g D__law_next.F.kp D__law_next.b .nil pass0 (pa_cons (pv 0) pa_nil)) (pe_callB (lenK (K := K)) (by rfl) T.b_len PySem.boot_len (pa_cons (pv 12) pa_nil))) (fun _ _ => rfl)) pa_nil)))))))
     (pss_one (ps_ret (pe_tup (pa_cons (pv 10) (pa_cons (pe_callTy (tupleK (K := K)) (by rfl) T.b_tuple (by decide +kernel) (pa_cons (pv 11) pa_nil)) pa_nil))))))))))), ?_⟩
  have LB := line_big
  obtain ⟨tw, w0, rs, rfl, htw, hw0, hT⟩ := id W
  have hpl := hP.len
  have hrl := hT.length
  have hord : ∀ i ∈ greF n ts k [] (ordN ps), i < ts.length := fun i hi => by
    rcases greF_mem hi with z | z
    · exact nomatch z
    · rw [← hpl]
      exact ordN_mem.mp z
  refine ⟨_, rfl, _, rfl, _, rfl, _, n, ts, k, pr, ps, rfl, W, hP, hok, hn, by omega, hk0, by omega, hLT, fun H1 l M k1 hL1 pM uM nl gl => ?_⟩
  have hM : ∀ i ∈ M, i < ts.length := fun i hi => hord i (pM.mem_iff.mp hi)
  have hMl : M.length ≤ ts.length := by
    have := greF_len (n := n) (ts := ts) (k := k) (ordN ps) []
    rw [pM.length_eq]
    rw [ordN_len] at this
    have : (greF n ts k [] (ordN ps)).length ≤ 0 + ps.length := this
    omega
  have tw1 := k1.tup' hLT _ _ htw
  have w01 := k1.tup' hLT _ _ hw0
  have hT1 : Ties H1 rs ts := hT.mono (k1.tup' hLT)
  have d1 := k1.deck hLT hd
  obtain ⟨⟨pa, rfl, gpr0⟩, _⟩ := id hP
  have gpr1 := k1.tup' hLT _ _ gpr0
  refine ⟨_, rfl, tw, _, 0, _, rfl, rfl, sqT_of tw1, atI_nat (j := 0) rfl, ?_⟩
  refine ⟨_, rfl, l, rfl, ⟨_, sqL_of gl⟩, fun D hD => ?_⟩
  refine lc_list (K := K) (a := l) (xs := nV M) (fun j G => ∃ qs, Ke H1 G ∧ G D = some (.lst qs) ∧ Ties G qs (tsN ts (M.take j))) ⟨[], Ke.new hD, upd_same, .nil⟩ (fun j G _ hG => ?_) (fun j x G hx hG => ?_) (fun G2 hG => ?_)
  · obtain ⟨_, kG, _⟩ := hG
    exact sqL_of (kG.lst gl)
  · obtain ⟨qs, kG, gD, gT⟩ := hG
    obtain ⟨i', hi', rfl⟩ := nV_at hx
    obtain ⟨q', he, hq'⟩ := tsN_at hT1 (hM i' (List.mem_of_getElem? hi'))
    have hjl := (List.getElem?_eq_some_iff.mp hi').1
    refine ⟨rfl, yes_ite ⟨_, rfl, tw, _, 1, _, rfl, rfl, sqT_of (kG.tup tw1), atI_nat (j := 1) rfl, _, rfl, w0, _, (i' : Int), _, rfl, rfl, sqT_of (kG.tup w01), he, qs, gD, ?_, qs ++ [.ref q'], kG.over hD, upd_same, ?_⟩⟩
    · rw [gT.length, tsN_len, List.length_take]
      omega
    · rw [tsN_take hi']
      exact (gT.pickN (kG.tup hq')).put gD
  obtain ⟨qs, k2, gD, gT⟩ := hG
  rw [List.length_map, List.take_length] at gT
  have okM := tok_tsN hok hM
  have hcan : canF n (tsN ts M) k = true := by
    have h := greF_can (n := n) (ts := ts) (k := k) (l := ordN ps) (can_nil hk0)
    refine canF_iff.mpr fun ls hls => ?_
    rw [inside_perm (tsN_perm pM) ls]
    exact canF_iff.mp h ls hls
  refine ⟨_, rfl, n, D, qs, tsN ts M, k, rfl, gD, gT, okM, by omega, ?_, hk0, by omega, fun H' _ z => ?_, fun G3 l2 g k3 nl2 gl2 hg => ?_⟩
  · rw [tsN_len]
    omega
  · rw [hcan] at z
    cases z
  have k13 := k2.trans k3
  have hL3 := hL1.ke LO k13
  have d3 := d1.ke k13
  have gl3 := Ke.lst k13 gl
  have hgl := hg.len
  rw [tsN_len] at hgl
  refine ⟨_, rfl, p, rfl, d3, fun r G4 r0 r1 k4 => ⟨_, rfl, _, _, rfl, _, _, rfl, rfl, ?_, ?_⟩⟩
  · split <;> omega
  obtain ⟨t, ht⟩ : ∃ t : Int, t = r % (if k > 1 then k else 1) := ⟨_, rfl⟩
  dsimp -proj -iota only
  rw [← ht]
  obtain ⟨hL, hgre⟩ := made_lay (t := t) hk0 hpl pM hg
  have d4 := k4.d
  have lp : l ≠ p := (hd.ne nl).symm
  have l2p : l2 ≠ p := ((d1.ke k2).ne nl2).symm
  have gl4 : G4 l = some (.lst (nV M)) := k4.lst gl3 lp
  have gl24 : G4 l2 = some (.lst (g.map V.int)) := k4.lst gl2 l2p
  have kB4 : Dk p H1 G4 := ((Dk.refl d1).ke k13).trans k4
  refine ⟨_, rfl, _, rfl, l2, rfl, ⟨_, sqL_of gl24⟩, fun D2 hD2 => ?_⟩
  refine lc_list (K := K) (a := l2) (xs := g.map V.int) (fun j G => Ke G4 G ∧ G D2 = some (.lst (((g.map fun y => (y + t) % k).take j).map V.int))) ⟨Ke.new hD2, upd_same⟩ (fun j G _ hG => ?_) (fun j x G hx hG => ?_) (fun G5 hG => ?_)
  · exact sqL_of (Ke.lst hG.1 gl24)
  · obtain ⟨k5, gD⟩ := hG
    rw [List.getElem?_map, Option.map_eq_some_iff] at hx
    obtain ⟨y, hy, rfl⟩ := hx
    have hjl := (List.getElem?_eq_some_iff.mp hy).1
    have hyr := hg.rng y (List.mem_of_getElem? hy)
    refine ⟨rfl, yes_ite ⟨_, rfl, _, rfl, _, _, rfl, rfl, _, rfl, _, _, rfl, rfl, by show 0 < k; omega, _, gD, ?_, k5.over hD2, ?_⟩⟩
    · rw [List.length_map, List.length_take, List.length_map]
      omega
    · rw [upd_same, take_next (show (g.map fun y => (y + t) % k)[j]? = some ((y + t) % k) by rw [List.getElem?_map, hy]; rfl), List.map_append]
      rfl
  obtain ⟨k5, gD5⟩ := hG
  rw [List.length_map, List.take_of_length_le (by rw [List.length_map]; exact Nat.le_refl _)] at gD5
  refine ⟨l, D2, M.map fun (i : Nat) => (i : Int), (g.map fun y => (y + t) % k).map V.int, rfl, by rw [← nV_map]; exact sqL_of (Ke.lst k5 gl4), sqL_of gD5, fun d nd => ?_⟩
  generalize mergeK [] (zipK (M.map fun (i : Nat) => (i : Int)) ((g.map fun y => (y + t) % k).map V.int)) = kvs at *
  have k6 := k5.trans (Ke.new (o := .dK kvs) nd)
  have gd6 : (upd G5 d (.dK kvs)) d = some (.dK kvs) := upd_same
  generalize upd G5 d (.dK kvs) = G6 at *
  have kB6 : Dk p H1 G6 := kB4.ke k6
  have gpr6 := kB6.tup d1 gpr1
  refine ⟨_, rfl, pa, _, rfl, .inr (sqT_of gpr6), ?_⟩
  rw [List.length_map, hpl]
  refine ⟨ts.length, rfl, by omega, by omega, fun D3 hD3 => ?_⟩
  refine lc_range (lo := 0) (n := ts.length) (fun j G => Ke G6 G ∧ G D3 = some (.lst (plcW kvs j))) ⟨Ke.new hD3, upd_same⟩ (fun j G hj hG => ?_) (fun G7 hG => ?_)
  · obtain ⟨k7, gD⟩ := hG
    rw [show (0 : Int) + (j : Int) = (j : Int) by omega]
    have gd := k7.at_ d _ gd6 (fun _ z => nomatch z) (fun z => z)
    refine ⟨rfl, yes_ite ⟨_, rfl, d, rfl, .inl ⟨_, .inl gd⟩, _, rfl, _, DGet.k (k := Sum.inl (j : Int)) gd, _, gD, ?_, k7.over hD3, ?_⟩⟩
    · rw [plcW_len]
      omega
    · rw [upd_same]
      unfold plcW
      rw [List.range_succ, List.map_append]
      rfl
  obtain ⟨k7, gD7⟩ := hG
  refine ⟨D3, _, rfl, .inl ⟨sqL_of gD7, fun u nu => ?_⟩⟩
  have hwl := hL.len
  generalize plcW kvs ts.length = ws at *
  have k8 := k7.trans (Ke.new (o := .tup ws) nu)
  have gu8 : (upd G7 u (.tup ws)) u = some (.tup ws) := upd_same
  generalize upd G7 u (.tup ws) = G8 at *
  refine ⟨by show 0 ≤ sizeLine; decide, fun R nR => ?_⟩
  have kB9 : Dk p H1 (upd G8 R (.lst [])) := kB6.ke (k8.trans (Ke.new nR))
  have Rp : R ≠ p := ((kB6.ke k8).d.ne nR).symm
  have R1 : H1 R = none := (kB6.ke k8).k.dom _ nR
  have gR9 : (upd G8 R (.lst [])) R = some (.lst []) := upd_same
  have gu9 := tup_new (o := .lst []) nR gu8
  generalize upd G8 R (.lst []) = G9 at *
  have gpr9 := kB9.tup d1 gpr1
  refine ⟨_, rfl, pa, _, rfl, .inr (sqT_of gpr9), ?_⟩
  rw [List.length_map, hpl]
  refine ⟨ts.length, rfl, by omega, by omega, ?_⟩
  refine for_range (lo := 0) (n := ts.length) (fun i σ G => ∃ (y5 y8 y12 y13 : Option V) (xs : List V), σ = [some (.ref p), some (.ref tw), some (.int k), some (.ref pa), some (.ref l), y5, some (.ref l2), some (.int t), y8, some (.ref d), some (.ref u), some (.ref R), y12, y13] ∧ Dk p H1 G ∧ G u = some (.tup ws) ∧ G R = some (.lst xs) ∧ xs.length = i ∧ ∀ j z, xs[j]? = some z → Rsn ts (n : Int) k ps ws G j z) ⟨_, _, _, _, [], rfl, kB9, gu9, gR9, rfl, fun j z e => by simp at e⟩ (fun i σ G hi hG => ?_) (fun σ G hG => ?_)
  rotate_left
  · obtain ⟨y5, y8, y12, y13, xs, rfl, kG, guG, gRG, hxl, hR⟩ := hG
    refine ⟨_, rfl, _, rfl, R, _, rfl, .inl ⟨sqL_of gRG, fun c nc => ?_⟩⟩
    have kc := kG.ke (Ke.new (o := .tup xs) nc)
    have guc := tup_new (o := .tup xs) nc guG
    have gcc : (upd G c (.tup xs)) c = some (.tup xs) := upd_same
    have hRc : ∀ j z, xs[j]? = some z → Rsn ts (n : Int) k ps ws (upd G c (.tup xs)) j z := fun j z e => (hR j z e).mono fun _ _ => tup_new nc
    generalize upd G c (.tup xs) = Gc at *
    refine ⟨by show 2 ≤ sizeLine; decide, fun x nx => ?_⟩
    obtain ⟨lo, hlo, hPap⟩ := paper_is (xs := xs) hL hxl fun j z e => (hRc j z e).mono fun _ _ => tup_new (o := .tup [.ref u, .ref c]) nx
    exact q H1 _ x u c ws xs lo k1 hL1 (kc.ke (Ke.new nx)) upd_same (tup_new nx guc) (tup_new nx gcc) hlo hPap
  · obtain ⟨y5, y8, y12, y13, xs, rfl, kG, guG, gRG, hxl, hR⟩ := hG
    rw [show (0 : Int) + (i : Int) = (i : Int) by omega]
    refine ⟨by show 1 ≤ sizeLine; decide, fun S nS => ?_⟩
    have kS := kG.ke (Ke.new (o := .lst [.non]) nS)
    have guS := tup_new (o := .lst [.non]) nS guG
    have gRS := lst_new (o := .lst [.non]) nS gRG
    have gSS : (upd G S (.lst [.non])) S = some (.lst [.non]) := upd_same
    have hRS : ∀ j z, xs[j]? = some z → Rsn ts (n : Int) k ps ws (upd G S (.lst [.non])) j z := fun j z e => (hR j z e).mono fun _ _ => tup_new nS
    generalize upd G S (.lst [.non]) = GS at *
    obtain ⟨wi, hwi⟩ : ∃ wi, ws[i]? = some wi := ⟨_, List.getElem?_eq_getElem (by omega)⟩
    refine ⟨fun σ' G' => ∃ (y8 y13 : Option V) (s : Addr) (zs : List V), σ' = [some (.ref p), some (.ref tw), some (.int k), some (.ref pa), some (.ref l), some (.int (i : Int)), some (.ref l2), some (.int t), y8, some (.ref d), some (.ref u), some (.ref R), some (.ref s), y13] ∧ Dk p H1 G' ∧ G' u = some (.tup ws) ∧ G' R = some (.lst xs) ∧ G' s = some (.lst zs) ∧ s ≠ p ∧ zs ≠ [] ∧ (∀ z ∈ zs, Rsn ts (n : Int) k ps ws G' i z) ∧ ∀ j z, xs[j]? = some z → Rsn ts (n : Int) k ps ws G' j z, ?_, ?_⟩
    · refine ⟨_, rfl, _, rfl, u, _, _, _, rfl, rfl, sqT_of guS, atI_nat hwi, rfl, _, rfl, iteB (fun hb => ?_) (fun hb => ?_)⟩
      · have hb : wi = .non := of_decide_eq_true hb
        subst hb
        have tw2 := kS.tup d1 tw1
        have W2 : Web GS (.ref tw) (n : Int) ts := (W.mono (k1.tup' hLT)).dk kS d1
        have gpr2 := kS.tup d1 gpr1
        refine ⟨_, rfl, tw, _, 0, _, rfl, rfl, sqT_of tw2, atI_nat (j := 0) rfl, n, rfl, hn, fun G2 lo rs2 k2 nlo glo hLo => ?_⟩
        refine ⟨lo, rfl, ⟨_, sqL_of glo⟩, fun D nD => ?_⟩
        have guL := k2.tup guS
        have W3 := W2.ke k2
        have gprL := k2.tup gpr2
        have hRsn : ∀ {ls : List Int}, Lot (n : Int) ls → lotR ts (n : Int) k ps ws i (some (ls.map V.int)) = true → ∀ {G' : Hp} {q : Addr}, G' q = some (.tup (ls.map V.int)) → Rsn ts (n : Int) k ps ws G' i (.ref q) := fun {ls} h1 h2 {G' q} hq => ⟨some ls, ⟨q, rfl, hq⟩, fun z => absurd hwi z, fun _ => ⟨ls, rfl, h1, h2⟩⟩
        refine lc_list (K := K) (a := lo) (xs := rs2) (fun j G => ∃ qs, Ke G2 G ∧ G D = some (.lst qs) ∧ qs.length ≤ j ∧ (∀ z ∈ qs, Rsn ts (n : Int) k ps ws G i z) ∧ ∀ j' ls, j' < j → ((lotsF n).filter fun l => !l.isEmpty)[j']? = some ls → lotR ts (n : Int) k ps ws i (some (ls.map V.int)) = true → qs ≠ []) ⟨[], Ke.new nD, upd_same, Nat.le_refl _, (fun z hz => nomatch hz), fun j' _ h => nomatch h⟩ (fun j G _ hG => ?_) (fun j x G hx hG => ?_) (fun G3 hG => ?_)
        · obtain ⟨_, kx, _⟩ := hG
          exact sqL_of (Ke.lst kx glo)
        · obtain ⟨qs, kx, gDx, hql, hqs, hcv⟩ := hG
          obtain ⟨ls, q', hls, rfl, hq'⟩ := hLo.get hx
          have hmem := List.mem_filter.mp (List.mem_of_getElem? hls)
          have hlf := lotsF_ok n ls hmem.1
          have hlot : Lot (n : Int) ls := ⟨fun z => by rw [z] at hmem; exact absurd hmem.2 (by decide), hlf.1, hlf.2.1⟩
          have hjl := (List.getElem?_eq_some_iff.mp hls).1
          have hjm : ((lotsF n).filter fun l => !l.isEmpty).length ≤ 4096 := by
            have h1 : ((lotsF n).filter fun l => !l.isEmpty).length ≤ (lotsF n).length := List.length_filter_le _ _
            rw [lotsF_len] at h1
            have h2 : 2 ^ n ≤ 2 ^ 12 := Nat.pow_le_pow_right (by decide) hn
            omega
          have hqx := Ke.tup kx hq'
          refine ⟨rfl, _, rfl, _, rfl, _, rfl, _, rfl, _, rfl, _, rfl, .ref tw, (n : Int), ts, k, .ref pa, ps, u, ws, i, .ref q', rfl, W3.ke kx, hok, ⟨⟨pa, rfl, Ke.tup kx gprL⟩, hpl⟩, Ke.tup kx guL, hL, hi, by omega, by omega, by omega, hk0, by omega, DT.tup hqx (by rw [List.length_map]; omega) fun z hz => by
            obtain ⟨j, _, rfl⟩ := List.mem_map.mp hz
            exact ⟨"int", .int j⟩, fun G4 k4 => ⟨_, rfl, iteB (fun hb => ?_) (fun hb => ?_)⟩⟩
          · rw [rdT_tup hqx] at hb
            have gD4 := Ke.lst k4 gDx
            have kx4 := kx.trans k4
            refine ⟨_, rfl, qs, gD4, by omega, qs ++ [.ref q'], kx4.over nD, upd_same, by rw [List.length_append]; show qs.length + 1 ≤ j + 1; omega, fun z hz => ?_, fun _ _ _ _ _ z => by simp at z⟩
            have tpx : ∀ q xs, G4 q = some (.tup xs) → (upd G4 D (.lst (qs ++ [.ref q']))) q = some (.tup xs) := fun q xs e => by
              rw [upd_ne fun w => by rw [w, gD4] at e; cases e]
              exact e
            rcases List.mem_append.mp hz with hz | hz
            · exact ((hqs z hz).mono fun _ _ => Ke.tup k4).mono tpx
            · rw [List.mem_singleton.mp hz]
              exact hRsn hlot hb (tpx _ _ (Ke.tup k4 hqx))
          · rw [rdT_tup hqx] at hb
            refine ⟨qs, kx.trans k4, Ke.lst k4 gDx, by omega, fun z hz => (hqs z hz).mono fun _ _ => Ke.tup k4, fun j' ls' hj' hls' hR' => ?_⟩
            by_cases c : j' = j
            · subst c
              rw [hls] at hls'
              cases hls'
              rw [hb] at hR'
              cases hR'
            · exact hcv j' ls' (by omega) hls' hR'
        · obtain ⟨qs, kx, gDx, hql, hqs, hcv⟩ := hG
          have k23 := k2.trans kx
          refine ⟨_, _, D, qs, rfl, kS.ke k23, Ke.tup k23 guS, Ke.lst k23 gRS, gDx, ((kS.ke k2).d.ne nD).symm, ?_, hqs, fun j z e => (hRS j z e).mono fun _ _ => Ke.tup k23⟩
          obtain ⟨ls, hlot, hlR⟩ := gre_reason hk0 hpl hi (fun z => (hgre i hi).mp z (by rw [List.getD_eq_getElem?_getD, hwi]; rfl)) hgre
          have hmem : ls ∈ (lotsF n).filter fun l => !l.isEmpty := List.mem_filter.mpr ⟨lotsF_all n hlot.up hlot.ok, by
            cases hz : ls with
            | nil => exact absurd hz hlot.ne
            | cons _ _ => rfl⟩
          obtain ⟨j', hj'⟩ := List.getElem?_of_mem hmem
          exact hcv j' ls (by rw [hLo.length]; exact (List.getElem?_eq_some_iff.mp hj').1) hj' hlR
      · have hb : ¬ wi = .non := of_decide_eq_false hb
        refine ⟨_, _, S, _, rfl, kS, guS, gRS, gSS, (kG.d.ne nS).symm, List.cons_ne_nil _ _, fun z hz => ?_, hRS⟩
        rw [List.mem_singleton.mp hz]
        refine ⟨none, rfl, fun _ => rfl, fun z => ?_⟩
        rw [hwi] at z
        exact absurd (Option.some.inj z) hb
    · rintro σ' G' ⟨y8, y13, s, zs, rfl, kS', guS', gRS', gss, sp, hne, hzs, hxs⟩
      have hzl : 0 < zs.length := List.length_pos_iff.mpr hne
      refine ⟨_, rfl, .inl ⟨rfl, _, sqL_of gRS'⟩, _, rfl, _, rfl, p, rfl, kS'.d, fun r G2 r0 r1 kr => ?_⟩
      have er := emod_bds r (n := (zs.length : Int)) (by omega)
      obtain ⟨u', eu⟩ : ∃ u' : Nat, r % (zs.length : Int) = (u' : Int) := ⟨(r % (zs.length : Int)).toNat, by omega⟩
      obtain ⟨z, hz⟩ : ∃ z, zs[u']? = some z := ⟨_, List.getElem?_eq_getElem (by omega)⟩
      have gs2 := kr.lst gss sp
      have gR2 := kr.lst gRS' Rp
      have tpr : ∀ q xs, G' q = some (.tup xs) → G2 q = some (.tup xs) := fun q xs e => kr.tup kS'.d e
      have gu2 := tpr _ _ guS'
      refine ⟨_, rfl, s, _, rfl, .inl (sqL_of gs2), _, _, rfl, rfl, by show (0 : Int) < (zs.length : Int); omega, s, _, _, _, rfl, rfl, sqL_of gs2, by show atI zs (r % (zs.length : Int)) = some z; rw [eu]; exact atI_nat hz, R, _, _, rfl, rfl, gR2, by omega, ?_⟩
      have tpx : ∀ q ys, G2 q = some (.tup ys) → (upd G2 R (.lst (xs ++ [z]))) q = some (.tup ys) := fun q ys e => by
        rw [upd_ne fun w => by rw [w, gR2] at e; cases e]
        exact e
      refine ⟨_, _, _, _, xs ++ [z], rfl, (kS'.trans kr).over d1 R1, tpx _ _ gu2, upd_same, by rw [List.length_append, hxl]; rfl, fun j y e => ?_⟩
      by_cases c : j < xs.length
      · rw [List.getElem?_append_left c] at e
        exact ((hxs j y e).mono tpr).mono tpx
      · have ej : j = i := by
          have := (List.getElem?_eq_some_iff.mp e).1
          rw [List.length_append] at this
          have : j < xs.length + 1 := this
          omega
        subst ej
        rw [List.getElem?_append_right (by omega), hxl, Nat.sub_self] at e
        cases e
        exact ((hzs z (List.mem_of_getElem? hz)).mono tpr).mono tpx
theorem ok__law_with {P : Program} {w : World} {K : PySem.W.Frag} {mg : Str → Option Value} {base : Heap} {tb : List Addr} {lt : List (Addr × Str)} {f : Addr} {fd : FuncData} (T : Blt mg) (D__law_with : DefAt K mg "_law_with" s_law_with ["_law_row", "_law_at", "_law_thing"] f fd) (LO : LtOk lt) :
    FnOk P w K mg base CX0 1 f fd ["_law_row", "_law_at", "_law_thing"] (sp__law_with K tb) := by
  refine D__law_with.ok sc__law_with (fun vs H Q E h => by
    obtain ⟨a, xs, i, v, rfl, ha, hx, hv, hl, q⟩ := h
    all_goals rfl) fun A outer s H vs Q E hr h => ?_
  obtain ⟨a, xs, i, v, rfl, ha, hx, hv, hl, q⟩ := h
  refine ⟨_, pss_one (ps_ret (pe_op (catU (K := K)) (pe_op (catU (K := K)) (pe_slice (sl_tupU (K := K)) (pv 0) po_none (po_some (pv 1))) (pe_tup (pa_cons (pv 2) pa_nil))) (pe_slice (sl_tupU (K := K)) (pv 0) (po_some (pe_op op_add (pv 1) (pe_int))) po_none))), ?_⟩
  have LB := line_big
  refine ⟨_, rfl, _, rfl, _, rfl, a, _, rfl, ha, fun c1 H1 k1 hc1 => ?_⟩
  have b1 := cutV_length xs none (some i)
  have b2 := cutV_length xs (some (i + 1)) none
  refine ⟨_, rfl, by show 1 ≤ sizeLine; decide, fun z nz => ?_⟩
  have k2 := k1.trans (Ke.new (o := .tup [v]) nz)
  have hz : (upd H1 z (.tup [v])) z = some (.tup [v]) := upd_same
  have hc2 := tup_new (o := .tup [v]) nz hc1
  generalize upd H1 z (.tup [v]) = H2 at *
  refine ⟨c1, z, _, _, rfl, rfl, hc2, hz, by show (cutV xs none (some i)).length + 1 ≤ sizeLine; omega, fun c3 H3 k3 hc3 => ?_⟩
  have k4 := Kx.trans k2 k3
  refine ⟨_, rfl, _, rfl, _, _, rfl, rfl, _, rfl, a, _, rfl, Ke.tup k4 ha, fun c5 H5 k5 hc5 => ?_⟩
  refine ⟨c3, c5, _, _, rfl, rfl, Ke.tup k5 hc3, hc5, by rw [List.length_append]; show (cutV xs none (some i)).length + 1 + (cutV xs (some (i + 1)) none).length ≤ sizeLine; omega, fun c6 H6 k6 hc6 => ?_⟩
  have k7 := (Kx.trans k4 k5).trans k6
  have hX := hx.ke k7
  exact q H6 c6 _ k7 hc6 ((hX.cut.app (.cons (hv.ke k7) .nil)).app hX.cut) (by rw [List.length_append, List.length_append]; show (cutV xs none (some i)).length + 1 + (cutV xs (some (i + 1)) none).length ≤ _; omega)
theorem ok__law_laying_bent {P : Program} {w : World} {K : PySem.W.Frag} {mg : Str → Option Value} {base : Heap} {tb : List Addr} {lt : List (Addr × Str)} {f : Addr} {fd : FuncData} {f__law_next : Addr} {fd__law_next : FuncData} {f__law_with : Addr} {fd__law_with : FuncData} (T : Blt mg) (D__law_laying_bent : DefAt K mg "_law_laying_bent" s_law_laying_bent ["_law_deck_here", "_law_k", "_law_laying"] f fd) (LO : LtOk lt) (D__law_next : DefAt K mg "_law_next" s_law_next ["_law_deck_here"] f__law_next fd__law_next) (G__law_next : FnOk P w K mg base CX0 1 f__law_next fd__law_next ["_law_deck_here"] (sp__law_next K tb)) (D__law_with : DefAt K mg "_law_with" s_law_with ["_law_row", "_law_at", "_law_thing"] f__law_with fd__law_with) (G__law_with : FnOk P w K mg base CX0 1 f__law_with fd__law_with ["_law_row", "_law_at", "_law_thing"] (sp__law_with K tb)) :
    FnOk P w K mg base CX0 2 f fd ["_law_deck_here", "_law_k", "_law_laying"] (sp__law_laying_bent K tb) := by
  refine D__law_laying_bent.ok sc__law_laying_bent (fun vs H Q E h => by
    obtain ⟨p, k, u, ws, rfl, hd, hu, hx, hl, hk0, hk1, q⟩ := h
    all_goals rfl) fun A outer s H vs Q E hr h => ?_
  obtain ⟨p, k, u, ws, rfl, hd, hu, hx, hl, hk0, hk1, q⟩ := h
  refine ⟨_, pss_cons (ps_set (i := 3) sc__law_laying_bent.nd rfl (.inl rfl) (pe_call G__law_next (hr.mono (by decide)) (by rfl) D__law_next.g D__law_next.F.kp D__law_next.b .nil pass0 (pa_cons (pv 0) pa_nil)))
     (pss_cons (ps_if (pt_cmpR (op_eq0 (K := K) hr.units) (pv 2) (pe_tup pa_nil) (nomark _))
     (pss_one (ps_ret (pe_ix (ix_listK (K := K)) (pe_lst (pa_cons (pe_tup (pa_cons (pe_non) pa_nil)) (pa_cons (pe_tup (pa_cons (pe_int) pa_nil)) (pa_cons (pe_lst pa_nil) (pa_cons (pe_non) pa_nil))))) (pe_op op_mod (pv 3) (pe_int)) (fun _ _ => rfl))))
     (pss_nil))
     (pss_cons (ps_set (i := 4) sc__law_laying_bent.nd rfl (.inl rfl) (pe_op op_mod (pe_op op_fdiv (pv 3) (pe_int)) (pe_callB (lenK (K := K)) (by rfl) T.b_len PySem.boot_len (pa_cons (pv 2) pa_nil))))
     (pss_cons (ps_set (i := 5) sc__law_laying_bent.nd rfl (.inl rfl) (pe_op op_mod (pe_call G__law_next (hr.mono (by decide)) (by rfl) D__law_next.g D__law_next.F.kp D__law_next.b .nil pass0 (pa_cons (pv 0) pa_nil)) (pe_callB (lenK (K := K)) (by rfl) T.b_len PySem.boot_len (pa_cons (pv 2) pa_nil))))
     (pss_cons (ps_set (i := 6) sc__law_laying_bent.nd rfl (.inl rfl) (pe_lst (pa_cons (pe_call G__law_with (hr.mono (by decide)) (by rfl) D__law_with.g D__law_with.F.kp D__law_with.b .nil pass0 (pa_cons (pv 2) (pa_cons (pv 4) (pa_cons (pe_non) pa_nil)))) (pa_cons (pe_call G__law_with (hr.mono (by decide)) (by rfl) D__law_with.g D__law_with.F.kp D__law_with.b .nil pass0 (pa_cons (pv 2) (pa_cons (pv 4) (pa_cons (pe_op op_mod (pe_op op_fdiv (pv 3) (pe_int)) (pe_callB (call_max2 rfl) (by rfl) T.b_max (by decide +kernel) (pa_cons (pe_int) (pa_cons (pv 1) pa_nil)))) pa_nil)))) (pa_cons (pe_call G__law_with (hr.mono (by decide)) (by rfl) D__law_with.g D__law_with.F.kp D__law_with.b .nil pass0 (pa_cons (pv 2) (pa_cons (pv 4) (pa_cons (pv 1) pa_nil)))) pa_nil)))))
     (pss_cons (ps_set (i := 6) sc__law_laying_bent.nd rfl (.inl rfl) (pe_op op_cat (pv 6) (pe_lst (pa_cons (pe_call G__law_with (hr.mono (by decide)) (by rfl) D__law_with.g D__law_with.F.kp D__law_with.b .nil pass0 (pa_cons (pv 2) (pa_cons (pv 4) (pa_cons (pe_un un_neg (pe_int)) pa_nil)))) (pa_cons (pe_call G__law_with (hr.mono (by decide)) (by rfl) D__law_with.g D__law_with.F.kp D__law_with.b .nil pass0 (pa_cons (pe_call G__law_with (hr.mono (by decide)) (by rfl) D__law_with.g D__law_with.F.kp D__law_with.b .nil pass0 (pa_cons (pv 2) (pa_cons (pv 4) (pa_cons (pe_ix (ix_tupK (K := K)) (pv 2) (pv 5) (fun _ _ => rfl)) pa_nil)))) (pa_cons (pv 5) (pa_cons (pe_ix (ix_tupK (K := K)) (pv 2) (pv 4) (fun _ _ => rfl)) pa_nil)))) pa_nil)))))
     (pss_one (ps_ret (pe_ix (ix_listK (K := K)) (pe_op op_cat (pv 6) (pe_lst (pa_cons (pe_op (catU (K := K)) (pe_slice (sl_tupU (K := K)) (pv 2) po_none (po_some (pv 4))) (pe_slice (sl_tupU (K := K)) (pv 2) (po_some (pe_op op_add (pv 4) (pe_int))) po_none)) (pa_cons (pe_op (catU (K := K)) (pv 2) (pe_tup (pa_cons (pe_non) pa_nil))) (pa_cons (pe_callTy (listK (K := K)) (by rfl) T.b_list (by decide +kernel) (pa_cons (pv 2) pa_nil)) pa_nil))))) (pe_op op_mod (pv 3) (pe_int)) (fun _ _ => rfl))))))))), ?_⟩
  have LB := line_big
  refine ⟨_, rfl, p, rfl, hd, fun r G1 r0 r1 k1 => ?_⟩
  have hu1 := k1.tup hd hu
  have hx1 := hx.dk k1 hd
  have d1 := k1.d
  refine ⟨_, rfl, by show 0 ≤ sizeLine; decide, fun z nz => ?_⟩
  have kz := k1.ke (Ke.new (o := .tup []) nz)
  have huz := tup_new (o := .tup []) nz hu1
  have hzz : (upd G1 z (.tup [])) z = some (.tup []) := upd_same
  have hxz := hx1.new (o := .tup []) nz
  have dz := d1.ke (Ke.new (o := .tup []) nz)
  generalize upd G1 z (.tup []) = G2 at *
  refine ⟨u, z, _, rfl, rfl, sqT_of huz, sqT_of hzz, _, rfl, ?_⟩
  by_cases hne : ws = []
  · subst hne
    refine iteT ?_
    refine ⟨by show 1 ≤ sizeLine; decide, fun p1 np1 => ?_⟩
    have hs1 : ThD (upd G2 p1 (.tup [.non])) [.ref p1] := .cons ((ThD.cons td_non .nil).tup upd_same) .nil
    have kk1 := kz.ke (Ke.new (o := .tup [.non]) np1)
    generalize upd G2 p1 (.tup [.non]) = G3 at *
    refine ⟨by show 1 ≤ sizeLine; decide, fun p2 np2 => ?_⟩
    have hs2 := (hs1.new (o := .tup [.int 0]) np2).cons ((ThD.cons (td_int 0) .nil).tup upd_same)
    have kk2 := kk1.ke (Ke.new (o := .tup [.int 0]) np2)
    generalize upd G3 p2 (.tup [.int 0]) = G4 at *
    refine ⟨by show 0 ≤ sizeLine; decide, fun p3 np3 => ?_⟩
    have hs3 := (hs2.new (o := .lst []) np3).cons (td_lst upd_same)
    have kk3 := kk2.ke (Ke.new (o := .lst []) np3)
    generalize upd G4 p3 (.lst []) = G5 at *
    refine ⟨by show 4 ≤ sizeLine; decide, fun L nL => ?_⟩
    have hs4 : ThD (upd G5 L (.lst [.ref p1, .ref p2, .ref p3, .non])) [.ref p1, .ref p2, .ref p3, .non] := ((hs3.cons td_non).sub (by simp)).new nL
    obtain ⟨x, hx, hm⟩ := pickI (r := r) (m := 4) (ls := [.ref p1, .ref p2, .ref p3, .non]) (by decide) rfl
    exact ⟨_, rfl, _, _, rfl, rfl, by show (0 : Int) < 4; decide, L, _, _, _, rfl, rfl, sqL_of upd_same, hx, q _ x (kk3.ke (Ke.new nL)) (hs4.all x hm)⟩
  have hwl : 0 < ws.length := List.length_pos_iff.mpr hne
  rw [show ws.isEmpty = false by cases ws with | nil => exact absurd rfl hne | cons _ _ => rfl]
  refine iteF ?_
  refine ⟨_, rfl, _, _, rfl, rfl, ⟨by decide, by omega⟩, _, rfl, u, _, rfl, .inr (sqT_of huz), _, _, rfl, rfl, by show (0 : Int) < (ws.length : Int); omega, ?_⟩
  have e1 := emod_bds (r / 8) (n := (ws.length : Int)) (by omega)
  obtain ⟨a, ea⟩ : ∃ a : Nat, r / 8 % (ws.length : Int) = (a : Int) := ⟨(r / 8 % (ws.length : Int)).toNat, by omega⟩
  dsimp -proj -iota only
  rw [ea]
  have al : a < ws.length := by omega
  refine ⟨_, rfl, p, rfl, dz, fun r2 G3 s0 s1 k3 => ⟨_, rfl, u, _, rfl, .inr (sqT_of (k3.tup dz huz)), _, _, rfl, rfl, by show (0 : Int) < (ws.length : Int); omega, ?_⟩⟩
  have e2 := emod_bds r2 (n := (ws.length : Int)) (by omega)
  obtain ⟨b, eb⟩ : ∃ b : Nat, r2 % (ws.length : Int) = (b : Int) := ⟨(r2 % (ws.length : Int)).toNat, by omega⟩
  dsimp -proj -iota only
  rw [eb]
  have bl : b < ws.length := by omega
  have hu3 := k3.tup dz huz
  have hx3 := hxz.dk k3 dz
  have kB := kz.trans k3
  obtain ⟨xa, hxa⟩ : ∃ x, ws[a]? = some x := ⟨_, List.getElem?_eq_getElem al⟩
  obtain ⟨xb, hxb⟩ : ∃ x, ws[b]? = some x := ⟨_, List.getElem?_eq_getElem bl⟩
  refine ⟨_, rfl, _, rfl, u, ws, (a : Int), .non, rfl, hu3, hx3, td_non, by omega, fun G4 c1 ys1 k4 hc1 hy1 hl1 => ?_⟩
  have hs1 : ThD G4 [.ref c1] := .cons (hy1.tup hc1 (by omega)) .nil
  refine ⟨_, rfl, _, rfl, _, rfl, _, _, rfl, rfl, ⟨by decide, by omega⟩, _, rfl, _, _, rfl, _, _, rfl, rfl, ?_, ?_⟩
  · show (0 : Int) < if k > 1 then k else 1
    split <;> omega
  refine ⟨u, ws, (a : Int), _, rfl, Ke.tup k4 hu3, hx3.ke k4, td_int _, by omega, fun G5 c2 ys2 k5 hc2 hy2 hl2 => ?_⟩
  have hs2 := (hs1.ke k5).cons (hy2.tup hc2 (by omega))
  have k45 := Kx.trans k4 k5
  refine ⟨_, rfl, _, rfl, _, rfl, u, ws, (a : Int), _, rfl, Ke.tup k45 hu3, hx3.ke k45, td_int _, by omega, fun G6 c3 ys3 k6 hc3 hy3 hl3 => ?_⟩
  have hs3 := (hs2.ke k6).cons (hy3.tup hc3 (by omega))
  have k46 := Kx.trans k45 k6
  refine ⟨by show 3 ≤ sizeLine; decide, fun L nL => ?_⟩
  have hL1 : ThD (upd G6 L (.lst [.ref c1, .ref c2, .ref c3])) [.ref c1, .ref c2, .ref c3] := (hs3.sub (by simp)).new nL
  have gL1 : (upd G6 L (.lst [.ref c1, .ref c2, .ref c3])) L = some (.lst [.ref c1, .ref c2, .ref c3]) := upd_same
  have k47 := Kx.trans k46 (Ke.new (o := .lst [.ref c1, .ref c2, .ref c3]) nL)
  generalize upd G6 L (.lst [.ref c1, .ref c2, .ref c3]) = G7 at *
  refine ⟨_, rfl, _, rfl, _, rfl, _, rfl, u, ws, (a : Int), _, rfl, Ke.tup k47 hu3, hx3.ke k47, td_int _, by omega, fun G8 c4 ys4 k8 hc4 hy4 hl4 => ?_⟩
  have hs4 : ThD G8 [.ref c4] := .cons (hy4.tup hc4 (by omega)) .nil
  have k48 := Kx.trans k47 k8
  refine ⟨_, rfl, _, rfl, _, rfl, _, rfl, u, _, _, _, rfl, rfl, sqT_of (Ke.tup k48 hu3), atI_nat hxb, u, ws, (a : Int), xb, rfl, Ke.tup k48 hu3, hx3.ke k48, (hx3.ke k48).all xb (List.mem_of_getElem? hxb), by omega, fun G9 c5 ys5 k9 hc5 hy5 hl5 => ?_⟩
  have k49 := Kx.trans k48 k9
  refine ⟨_, rfl, _, rfl, _, rfl, u, _, _, _, rfl, rfl, sqT_of (Ke.tup k49 hu3), atI_nat hxa, c5, ys5, (b : Int), xa, rfl, hc5, hy5, (hx3.ke k49).all xa (List.mem_of_getElem? hxa), by omega, fun G10 c6 ys6 k10 hc6 hy6 hl6 => ?_⟩
  have k410 := Kx.trans k49 k10
  have hs6 := ((hs4.ke k9).ke k10).cons (hy6.tup hc6 (by omega))
  refine ⟨by show 2 ≤ sizeLine; decide, fun L2' nL2 => ?_⟩
  have gL2 : (upd G10 L2' (.lst [.ref c4, .ref c6])) L2' = some (.lst [.ref c4, .ref c6]) := upd_same
  have gL1' := lst_new (o := .lst [.ref c4, .ref c6]) nL2 (Ke.lst (Kx.trans (Kx.trans k8 k9) k10) gL1)
  have hA : ThD (upd G10 L2' (.lst [.ref c4, .ref c6])) [.ref c1, .ref c2, .ref c3, .ref c4, .ref c6] := (((hL1.ke (Kx.trans (Kx.trans k8 k9) k10)).app hs6).sub (by simp)).new nL2
  have k411 := Kx.trans k410 (Ke.new (o := .lst [.ref c4, .ref c6]) nL2)
  generalize upd G10 L2' (.lst [.ref c4, .ref c6]) = G11 at *
  refine ⟨L, L2', _, _, rfl, rfl, gL1', gL2, by show 5 ≤ sizeLine; decide, fun M nM => ?_⟩
  have gM : (upd G11 M (.lst ([.ref c1, .ref c2, .ref c3] ++ [.ref c4, .ref c6]))) M = some (.lst [.ref c1, .ref c2, .ref c3, .ref c4, .ref c6]) := upd_same
  have hA2 := hA.new (o := .lst ([.ref c1, .ref c2, .ref c3] ++ [.ref c4, .ref c6])) nM
  have k412 := Kx.trans k411 (Ke.new (o := .lst ([.ref c1, .ref c2, .ref c3] ++ [.ref c4, .ref c6])) nM)
  generalize upd G11 M (.lst ([.ref c1, .ref c2, .ref c3] ++ [.ref c4, .ref c6])) = G12 at *
  clear hA hs1 hs2 hs3 hs4 hs6 hL1
  refine ⟨_, rfl, _, rfl, _, rfl, _, rfl, u, _, rfl, Ke.tup k412 hu3, fun d1' G13 k13 hd1 => ?_⟩
  have k413 := Kx.trans k412 k13
  have b1 := cutV_length ws none (some (a : Int))
  have b2 := cutV_length ws (some ((a : Int) + 1)) none
  refine ⟨_, rfl, _, rfl, _, _, rfl, rfl, _, rfl, u, _, rfl, Ke.tup k413 hu3, fun d2 G14 k14 hd2 => ?_⟩
  have k414 := Kx.trans k413 k14
  refine ⟨d1', d2, _, _, rfl, rfl, Ke.tup k14 hd1, hd2, by omega, fun d3 G15 k15 hd3 => ?_⟩
  have k415 := Kx.trans k414 k15
  have gMa := Ke.lst k15 (Ke.lst k14 (Ke.lst k13 gM))
  have hX := hx3.ke k415
  have hB1 := (((hA2.ke k13).ke k14).ke k15).cons ((hX.cut.app hX.cut).tup hd3 (by rw [List.length_append]; omega))
  refine ⟨_, rfl, by show 1 ≤ sizeLine; decide, fun e1' ne1 => ?_⟩
  have k416 := Kx.trans k415 (Ke.new (o := .tup [.non]) ne1)
  have ge1 : (upd G15 e1' (.tup [.non])) e1' = some (.tup [.non]) := upd_same
  have hB2 := hB1.new (o := .tup [.non]) ne1
  have gMb := lst_new (o := .tup [.non]) ne1 gMa
  generalize upd G15 e1' (.tup [.non]) = G16 at *
  refine ⟨u, e1', _, _, rfl, rfl, Ke.tup k416 hu3, ge1, by show ws.length + 1 ≤ sizeLine; omega, fun e2' G17 k17 he2 => ?_⟩
  have k417 := Kx.trans k416 k17
  have hB3 := (hB2.ke k17).cons (((hx3.ke k417).app (.cons td_non .nil)).tup he2 (by rw [List.length_append]; show ws.length + 1 ≤ 1000; omega))
  refine ⟨_, rfl, u, _, rfl, .inr (sqT_of (Ke.tup k417 hu3)), fun l3 nl3 => ?_⟩
  have k418 := Kx.trans k417 (Ke.new (o := .lst ws) nl3)
  have hB4 := (hB3.new (o := .lst ws) nl3).cons (td_lst upd_same)
  have gMc := lst_new (o := .lst ws) nl3 (Ke.lst k17 gMb)
  generalize upd G17 l3 (.lst ws) = G18 at *
  refine ⟨by show 3 ≤ sizeLine; decide, fun N nN => ?_⟩
  have gN : (upd G18 N (.lst [.ref d3, .ref e2', .ref l3])) N = some (.lst [.ref d3, .ref e2', .ref l3]) := upd_same
  have k419 := Kx.trans k418 (Ke.new (o := .lst [.ref d3, .ref e2', .ref l3]) nN)
  have hB5 := hB4.new (o := .lst [.ref d3, .ref e2', .ref l3]) nN
  have gM2 := lst_new (o := .lst [.ref d3, .ref e2', .ref l3]) nN gMc
  generalize upd G18 N (.lst [.ref d3, .ref e2', .ref l3]) = G19 at *
  refine ⟨M, N, _, _, rfl, rfl, gM2, gN, by show 8 ≤ sizeLine; decide, fun F nF => ?_⟩
  have hF : ThD (upd G19 F (.lst [.ref c1, .ref c2, .ref c3, .ref c4, .ref c6, .ref d3, .ref e2', .ref l3])) [.ref c1, .ref c2, .ref c3, .ref c4, .ref c6, .ref d3, .ref e2', .ref l3] := (hB5.sub (fun y hy => by
    simp only [List.mem_cons, List.not_mem_nil, or_false] at hy
    rcases hy with rfl | rfl | rfl | rfl | rfl | rfl | rfl | rfl <;> simp)).new nF
  obtain ⟨x, hx, hm⟩ := pickI (r := r) (m := 8) (ls := [.ref c1, .ref c2, .ref c3, .ref c4, .ref c6, .ref d3, .ref e2', .ref l3]) (by decide) rfl
  exact ⟨_, rfl, _, _, rfl, rfl, by show (0 : Int) < 8; decide, F, _, _, _, rfl, rfl, sqL_of upd_same, hx, q _ x (kB.ke (Kx.trans k419 (Ke.new nF))) (hF.all x hm)⟩
theorem ok__law_reasons_bent {P : Program} {w : World} {K : PySem.W.Frag} {mg : Str → Option Value} {base : Heap} {tb : List Addr} {lt : List (Addr × Str)} {f : Addr} {fd : FuncData} {f__law_next : Addr} {fd__law_next : FuncData} {f__law_lot : Addr} {fd__law_lot : FuncData} {f__law_odd_things : Addr} {fd__law_odd_things : FuncData} {f__law_with : Addr} {fd__law_with : FuncData} (T : Blt mg) (D__law_reasons_bent : DefAt K mg "_law_reasons_bent" s_law_reasons_bent ["_law_deck_here", "_law_web_here", "_law_reasons"] f fd) (LO : LtOk lt) (D__law_next : DefAt K mg "_law_next" s_law_next ["_law_deck_here"] f__law_next fd__law_next) (G__law_next : FnOk P w K mg base CX0 1 f__law_next fd__law_next ["_law_deck_here"] (sp__law_next K tb)) (D__law_lot : DefAt K mg "_law_lot" s_law_lot ["_law_deck_here", "_law_points"] f__law_lot fd__law_lot) (G__law_lot : FnOk P w K mg base CX0 2 f__law_lot fd__law_lot ["_law_deck_here", "_law_points"] (sp__law_lot K tb)) (D__law_odd_things : DefAt K mg "_law_odd_things" s_law_odd_things [] f__law_odd_things fd__law_odd_things) (G__law_odd_things : FnOk P w K mg base CX0 1 f__law_odd_things fd__law_odd_things [] (sp__law_odd_things K tb)) (D__law_with : DefAt K mg "_law_with" s_law_with ["_law_row", "_law_at", "_law_thing"] f__law_with fd__law_with) (G__law_with : FnOk P w K mg base CX0 1 f__law_with fd__law_with ["_law_row", "_law_at", "_law_thing"] (sp__law_with K tb)) :
    FnOk P w K mg base CX0 3 f fd ["_law_deck_here", "_law_web_here", "_law_reasons"] (sp__law_reasons_bent K tb) := by
  refine D__law_reasons_bent.ok sc__law_reasons_bent (fun vs H Q E h => by
    obtain ⟨p, v, n, ts, c, xs, lo, rfl, hd, W, hn1, hn2, hc, hlo, hlot, hl, q⟩ := h
    all_goals rfl) fun A outer s H vs Q E hr h => ?_
  obtain ⟨p, v, n, ts, c, xs, lo, rfl, hd, W, hn1, hn2, hc, hlo, hlot, hl, q⟩ := h
  refine ⟨_, pss_cons (ps_set (i := 3) sc__law_reasons_bent.nd rfl (.inl rfl) (pe_call G__law_next (hr.mono (by decide)) (by rfl) D__law_next.g D__law_next.F.kp D__law_next.b .nil pass0 (pa_cons (pv 0) pa_nil)))
     (pss_cons (ps_if (pt_cmpR (op_eq0 (K := K) hr.units) (pv 2) (pe_tup pa_nil) (nomark _))
     (pss_one (ps_ret (pe_ix (ix_listK (K := K)) (pe_lst (pa_cons (pe_tup (pa_cons (pe_non) pa_nil)) (pa_cons (pe_tup (pa_cons (pe_tup (pa_cons (pe_int) pa_nil)) pa_nil)) (pa_cons (pe_lst pa_nil) (pa_cons (pe_dnewK) pa_nil))))) (pe_op op_mod (pv 3) (pe_int)) (fun _ _ => rfl))))
     (pss_nil))
     (pss_cons (ps_set (i := 4) sc__law_reasons_bent.nd rfl (.inl rfl) (pe_op op_mod (pe_op op_fdiv (pv 3) (pe_int)) (pe_callB (lenK (K := K)) (by rfl) T.b_len PySem.boot_len (pa_cons (pv 2) pa_nil))))
     (pss_cons (ps_set (i := 5) sc__law_reasons_bent.nd rfl (.inl rfl) (pe_call G__law_lot (hr.mono (by decide)) (by rfl) D__law_lot.g D__law_lot.F.kp D__law_lot.b .nil pass0 (pa_cons (pv 0) (pa_cons (pe_ix (ix_tupK (K := K)) (pv 1) (pe_int) (fun _ _ => rfl)) pa_nil))))
     (pss_cons (ps_set (i := 6) sc__law_reasons_bent.nd rfl (.inl rfl) (pe_call0 G__law_odd_things (hr.mono (by decide)) (by rfl) D__law_odd_things.g D__law_odd_things.F.kp D__law_odd_things.b .nil pass0))
     (pss_cons (ps_set (i := 7) sc__law_reasons_bent.nd rfl (.inl rfl) (pe_ix (ix_tupK (K := K)) (pv 2) (pv 4) (fun _ _ => rfl)))
     (C8.pss_cut (ps_if (pt_cmpR op_isN (pv 7) (pe_non) (nomark _))
     (pss_one (ps_set (i := 7) sc__law_reasons_bent.nd rfl (.inl rfl) (pv 5)))
     (pss_nil))
     (pss_cons (ps_set (i := 8) sc__law_reasons_bent.nd rfl (.inl rfl) (pe_slice (sl_tupU (K := K)) (pv 7) (po_some (pe_int)) po_none))
     (pss_cons (ps_set (i := 9) sc__law_reasons_bent.nd rfl (.inl rfl) (pe_callTy (tupleK (K := K)) (by rfl) T.b_tuple (by decide +kernel) (pa_cons (pe_callB (cr_sortedSetB rfl) (by rfl) T.b_sorted (by decide +kernel) (pa_cons (pe_callTy (cr_setT rfl) (by rfl) T.b_set (by decide +kernel) (pa_cons (pe_op (catU (K := K)) (pv 7) (pe_tup (pa_cons (pe_op op_mod (pe_call G__law_next (hr.mono (by decide)) (by rfl) D__law_next.g D__law_next.F.kp D__law_next.b .nil pass0 (pa_cons (pv 0) pa_nil)) (pe_ix (ix_tupK (K := K)) (pv 1) (pe_int) (fun _ _ => rfl))) pa_nil))) pa_nil)) pa_nil)) pa_nil)))
     (pss_cons (ps_set (i := 10) sc__law_reasons_bent.nd rfl (.inl rfl) (pe_lst (pa_cons (pe_call G__law_with (hr.mono (by decide)) (by rfl) D__law_with.g D__law_with.F.kp D__law_with.b .nil pass0 (pa_cons (pv 2) (pa_cons (pv 4) (pa_cons (pv 5) pa_nil)))) (pa_cons (pe_call G__law_with (hr.mono (by decide)) (by rfl) D__law_with.g D__law_with.F.kp D__law_with.b .nil pass0 (pa_cons (pv 2) (pa_cons (pv 4) (pa_cons (pe_non) pa_nil)))) (pa_cons (pe_call G__law_with (hr.mono (by decide)) (by rfl) D__law_with.g D__law_with.F.kp D__law_with.b .nil pass0 (pa_cons (pv 2) (pa_cons (pv 4) (pa_cons (pv 8) pa_nil)))) pa_nil)))))
     (pss_cons (ps_set (i := 10) sc__law_reasons_bent.nd rfl (.inl rfl) (pe_op op_cat (pv 10) (pe_lst (pa_cons (pe_call G__law_with (hr.mono (by decide)) (by rfl) D__law_with.g D__law_with.F.kp D__law_with.b .nil pass0 (pa_cons (pv 2) (pa_cons (pv 4) (pa_cons (pv 9) pa_nil)))) (pa_cons (pe_call G__law_with (hr.mono (by decide)) (by rfl) D__law_with.g D__law_with.F.kp D__law_with.b .nil pass0 (pa_cons (pv 2) (pa_cons (pv 4) (pa_cons (pe_callTy (listK (K := K)) (by rfl) T.b_list (by decide +kernel) (pa_cons (pv 7) pa_nil)) pa_nil)))) (pa_cons (pe_op (catU (K := K)) (pe_slice (sl_tupU (K := K)) (pv 2) po_none (po_some (pv 4))) (pe_slice (sl_tupU (K := K)) (pv 2) (po_some (pe_op op_add (pv 4) (pe_int))) po_none)) pa_nil))))))
     (pss_cons (ps_expr (pe_bm PySem.F.plainAttrs_list PySem.F.slot_list_append PySem.F.type_list_append mt_append (pv 10) (pa_cons (pe_call G__law_with (hr.mono (by decide)) (by rfl) D__law_with.g D__law_with.F.kp D__law_with.b .nil pass0 (pa_cons (pv 2) (pa_cons (pv 4) (pa_cons (pe_tupRevT rfl (by rfl) T.b_tuple (by rfl) T.b_reversed (pv 7)) pa_nil)))) pa_nil)))
     (pss_cons (ps_expr (pe_bm PySem.F.plainAttrs_list PySem.F.slot_list_append PySem.F.type_list_append mt_append (pv 10) (pa_cons (pe_call G__law_with (hr.mono (by decide)) (by rfl) D__law_with.g D__law_with.F.kp D__law_with.b .nil pass0 (pa_cons (pv 2) (pa_cons (pv 4) (pa_cons (pe_ix (ix_listK (K := K)) (pv 6) (pe_op op_mod (pe_call G__law_next (hr.mono (by decide)) (by rfl) D__law_next.g D__law_next.F.kp D__law_next.b .nil pass0 (pa_cons (pv 0) pa_nil)) (pe_callB (lenK (K := K)) (by rfl) T.b_len PySem.boot_len (pa_cons (pv 6) pa_nil))) (fun _ _ => rfl)) pa_nil)))) pa_nil)))
     (pss_cons (ps_set (i := 11) sc__law_reasons_bent.nd rfl (.inl rfl) (pe_op op_mod (pe_bmF PySem.F.slot_tuple_index PySem.F.type_tuple_index (mt_tindex (K := K)) (pe_op (catG (K := K)) (pv 7) (pe_tup (pa_cons (pe_int) pa_nil))) (pa_cons (pe_int) pa_nil)) (pe_callB (lenK (K := K)) (by rfl) T.b_len PySem.boot_len (pa_cons (pv 7) pa_nil))))
     (pss_cons (ps_for PassesOwn.never rfl (pi_list (pe_lst (pa_cons (pe_bl) (pa_cons (pe_non) (pa_cons (pe_str) (pa_cons (pe_lst (pa_cons (pe_int) pa_nil)) pa_nil)))))) (pg_name (i := 12) sc__law_reasons_bent.nd rfl (.inl rfl))
     (pss_one (ps_expr (pe_bm PySem.F.plainAttrs_list PySem.F.slot_list_append PySem.F.type_list_append mt_append (pv 10) (pa_cons (pe_call G__law_with (hr.mono (by decide)) (by rfl) D__law_with.g D__law_with.F.kp D__law_with.b .nil pass0 (pa_cons (pv 2) (pa_cons (pv 4) (pa_cons (pe_op (catU (K := K)) (pe_op (catU (K := K)) (pe_slice (sl_tupU (K := K)) (pv 7) po_none (po_some (pv 11))) (pe_tup (pa_cons (pv 12) pa_nil))) (pe_slice (sl_tupU (K := K)) (pv 7) (po_some (pe_op op_add (pv 11) (pe_int))) po_none)) pa_nil)))) pa_nil)))))
     (pss_one (ps_ret (pe_ix (ix_listK (K := K)) (pv 10) (pe_op op_mod (pv 3) (pe_int)) (fun _ _ => rfl)))))))))))))))))), ?_⟩
  have LB := line_big
  obtain ⟨tw, w0, rs, rfl, htw, hw0, hTt⟩ := id W
  have hxl := hlo.length
  have hXs : ∀ {G : Hp}, LoP G xs lo → ThD G xs := fun {G} h => ⟨fun y hy => by
    obtain ⟨j, hj⟩ := List.getElem?_of_mem hy
    obtain ⟨o, ho, hv⟩ := h.get hj
    cases o with
    | none =>
      rw [show y = V.non from hv]
      exact td_non
    | some ls =>
      obtain ⟨q, rfl, hq⟩ := hv
      have := (hlot _ (List.mem_of_getElem? ho) ls rfl).le
      exact DT.ints hq (by omega)⟩
  refine ⟨_, rfl, p, rfl, hd, fun r G1 r0 r1 k1 => ?_⟩
  have hc1 := k1.tup hd hc
  have hlo1 : LoP G1 xs lo := hlo.mono fun _ _ => k1.tup hd
  have d1 := k1.d
  refine ⟨_, rfl, by show 0 ≤ sizeLine; decide, fun z nz => ?_⟩
  have kz := k1.ke (Ke.new (o := .tup []) nz)
  have hcz := tup_new (o := .tup []) nz hc1
  have hzz : (upd G1 z (.tup [])) z = some (.tup []) := upd_same
  have hloz : LoP (upd G1 z (.tup [])) xs lo := hlo1.mono fun _ _ => tup_new nz
  have dz := d1.ke (Ke.new (o := .tup []) nz)
  generalize upd G1 z (.tup []) = G2 at *
  refine ⟨c, z, _, rfl, rfl, sqT_of hcz, sqT_of hzz, _, rfl, ?_⟩
  by_cases hne : xs = []
  · subst hne
    refine iteT ?_
    refine ⟨by show 1 ≤ sizeLine; decide, fun p1 np1 => ?_⟩
    have hs1 : ThD (upd G2 p1 (.tup [.non])) [.ref p1] := .cons ((ThD.cons td_non .nil).tup upd_same) .nil
    have kk1 := kz.ke (Ke.new (o := .tup [.non]) np1)
    generalize upd G2 p1 (.tup [.non]) = G3 at *
    refine ⟨by show 1 ≤ sizeLine; decide, fun p2 np2 => ?_⟩
    have hs2 := (hs1.new (o := .tup [.int 0]) np2).cons ((ThD.cons (td_int 0) .nil).tup upd_same)
    have kk2 := kk1.ke (Ke.new (o := .tup [.int 0]) np2)
    generalize upd G3 p2 (.tup [.int 0]) = G4 at *
    refine ⟨by show 1 ≤ sizeLine; decide, fun p3 np3 => ?_⟩
    have hs3 := (hs2.new (o := .tup [.ref p2]) np3).cons (((ThD.cons (hs2.all (.ref p2) (by simp)) .nil).new np3).tup upd_same)
    have kk3 := kk2.ke (Ke.new (o := .tup [.ref p2]) np3)
    generalize upd G4 p3 (.tup [.ref p2]) = G5 at *
    refine ⟨by show 0 ≤ sizeLine; decide, fun p4 np4 => ?_⟩
    have hs4 := (hs3.new (o := .lst []) np4).cons (td_lst upd_same)
    have kk4 := kk3.ke (Ke.new (o := .lst []) np4)
    generalize upd G5 p4 (.lst []) = G6 at *
    refine fun p5 np5 => ?_
    have hs5 := (hs4.new (o := .dK []) np5).cons (td_dic upd_same)
    have kk5 := kk4.ke (Ke.new (o := .dK []) np5)
    generalize upd G6 p5 (.dK []) = G7 at *
    refine ⟨by show 4 ≤ sizeLine; decide, fun L nL => ?_⟩
    have hs6 : ThD (upd G7 L (.lst [.ref p1, .ref p3, .ref p4, .ref p5])) [.ref p1, .ref p3, .ref p4, .ref p5] := (hs5.sub (by simp)).new nL
    obtain ⟨x, hx, hm⟩ := pickI (r := r) (m := 4) (ls := [.ref p1, .ref p3, .ref p4, .ref p5]) (by decide) rfl
    exact ⟨_, rfl, _, _, rfl, rfl, by show (0 : Int) < 4; decide, L, _, _, _, rfl, rfl, sqL_of upd_same, hx, q _ x (kk5.ke (Ke.new nL)) (hs6.all x hm)⟩
  have hwl : 0 < xs.length := List.length_pos_iff.mpr hne
  rw [show xs.isEmpty = false by cases xs with | nil => exact absurd rfl hne | cons _ _ => rfl]
  refine iteF ?_
  refine ⟨_, rfl, _, _, rfl, rfl, ⟨by decide, by omega⟩, _, rfl, c, _, rfl, .inr (sqT_of hcz), _, _, rfl, rfl, by show (0 : Int) < (xs.length : Int); omega, ?_⟩
  have e1 := emod_bds (r / 8) (n := (xs.length : Int)) (by omega)
  obtain ⟨a, ea⟩ : ∃ a : Nat, r / 8 % (xs.length : Int) = (a : Int) := ⟨(r / 8 % (xs.length : Int)).toNat, by omega⟩
  dsimp -proj -iota only
  rw [ea]
  have al : a < xs.length := by omega
  have htwz := kz.tup hd htw
  refine ⟨_, rfl, _, rfl, tw, _, 0, _, rfl, rfl, sqT_of htwz, atI_nat (j := 0) rfl, p, n, rfl, dz, by omega, by omega, fun G3 la ls0 k3 nla gla hLot => ?_⟩
  refine ⟨rfl, fun G4 lo4 os k4 nlo4 glo4 hO hol hop => ?_⟩
  have kB := (kz.trans k3).ke k4
  have lo4p : lo4 ≠ p := ((kz.trans k3).d.ne nlo4).symm
  have hc4 := Ke.tup k4 (k3.tup dz hcz)
  have hlo4 : LoP G4 xs lo := (hloz.mono fun _ _ => k3.tup dz).ke k4
  have gla4 := Ke.tup k4 gla
  have htw4 := Ke.tup k4 (k3.tup dz htwz)
  have d4 := kB.d
  clear hcz hzz hloz htwz hc1 hlo1
  obtain ⟨xa, hxa⟩ : ∃ x, xs[a]? = some x := ⟨_, List.getElem?_eq_getElem al⟩
  obtain ⟨oa, hoa, hva⟩ := hlo4.get hxa
  refine ⟨_, rfl, _, rfl, c, _, _, _, rfl, rfl, sqT_of hc4, atI_nat hxa, ?_⟩
  refine ⟨fun σ' G' => ∃ (y8 y9 y10 y11 y12 : Option V) (o : Addr) (ls : List Int), G4 = G' ∧ σ' = [some (.ref p), some (.ref tw), some (.ref c), some (.int r), some (.int (a : Int)), some (.ref la), some (.ref lo4), some (.ref o), y8, y9, y10, y11, y12] ∧ G4 o = some (.tup (ls.map V.int)) ∧ Lot (n : Int) ls, ?_, ?_⟩
  · refine ⟨_, rfl, rfl, _, rfl, iteB (fun hb => ?_) (fun hb => ?_)⟩
    · exact ⟨_, rfl, _, _, _, _, _, la, ls0, rfl, rfl, gla4, hLot⟩
    · have hb : ¬ xa = .non := of_decide_eq_false hb
      cases oa with
      | none => exact absurd hva hb
      | some ls =>
        obtain ⟨q', rfl, hq'⟩ := hva
        exact ⟨_, _, _, _, _, q', ls, rfl, rfl, hq', hlot _ (List.mem_of_getElem? hoa) ls rfl⟩
  rintro σ' G' ⟨y8, y9, y10, y11, y12, o, ls, rfl, rfl, go, hL⟩
  have hll := hL.le
  have hX4 := hXs hlo4
  refine ⟨_, rfl, _, rfl, o, _, rfl, go, fun c1 G5 k5 hc5 => ?_⟩
  have d5 := d4.ke k5
  refine ⟨_, rfl, _, rfl, p, rfl, d5, fun r2 G6 s0 s1 k6 => ?_⟩
  have kC := (kB.ke k5).trans k6
  have tp6 : ∀ q zs, G4 q = some (.tup zs) → G6 q = some (.tup zs) := fun q zs e => k6.tup d5 (Ke.tup k5 e)
  have go6 := tp6 _ _ go
  have hc6 := k6.tup d5 hc5
  have d6 := k6.d
  refine ⟨_, rfl, tw, _, 0, _, rfl, rfl, sqT_of (tp6 _ _ htw4), atI_nat (j := 0) rfl, _, _, rfl, rfl, by show (0 : Int) < (n : Int); omega, by show 1 ≤ sizeLine; decide, fun t1 nt1 => ?_⟩
  have gt1 : (upd G6 t1 (.tup [.int (r2 % (n : Int))])) t1 = some (.tup [.int (r2 % (n : Int))]) := upd_same
  have b7 : Ke G6 (upd G6 t1 (.tup [.int (r2 % (n : Int))])) := Ke.new nt1
  generalize upd G6 t1 _ = G7 at *
  refine ⟨o, t1, _, _, rfl, rfl, Ke.tup b7 go6, gt1, by rw [List.length_map]; show ls.length + 1 ≤ sizeLine; omega, fun e1 G8 k8 he1 => ?_⟩
  have b8 := Kx.trans b7 k8
  refine ⟨e1, ls ++ [r2 % (n : Int)], rfl, by rw [List.map_append]; exact sqT_of he1, by rw [List.length_append]; show ls.length + 1 ≤ 1000; omega, fun st cn nst hcn => ?_⟩
  refine ⟨st, _, cn, rfl, upd_same, by rw [List.length_append] at hcn; have : cn ≤ ls.length + 1 := hcn; omega, fun ns sp upns memns lenns nsp => ?_⟩
  refine ⟨sp, _, rfl, .inl ⟨sqL_of upd_same, fun mo nmo => ?_⟩⟩
  obtain ⟨b11, gmo⟩ := Ke.newT (Kx.trans (Kx.trans (Kx.trans b8 (Ke.new nst)) (Ke.new nsp)) (Ke.new (o := .tup (ns.map V.int)) nmo))
  have hnl : ns.length ≤ 200 := by
    rw [List.length_append] at hcn
    have : cn ≤ ls.length + 1 := hcn
    omega
  generalize upd _ mo (.tup (ns.map V.int)) = G9 at *
  have kB9 := kC.ke b11
  have hX6 := hXs (hlo4.mono tp6)
  have hO6 := (hO.ke k5).dk k6 d5
  have glo6 := k6.lst (Ke.lst k5 glo4) lo4p
  have dla : DT 5 G6 (.ref la) := DT.ints (tp6 _ _ gla4) (by have := hLot.le; omega)
  have hc46 := tp6 _ _ hc4
  have dc1 : DT 5 G6 (.ref c1) := by
    have := cutV_length (ls.map V.int) (some 1) none
    rw [List.length_map] at this
    exact (ThD.ints ls).cut.tup hc6 (by omega)
  have dmo : DT 5 G9 (.ref mo) := DT.ints gmo (by omega)
  have kCx := kC
  clear kC tp6 hX4
  refine ⟨_, rfl, _, rfl, _, rfl, c, xs, (a : Int), _, rfl, Ke.tup b11 hc46, hX6.ke b11, dla.ke b11, by omega, fun G10 m1 zs1 k10 hm1 hz1 hl1 => ?_⟩
  have b12 := Kx.trans b11 k10
  have hs1 : ThD G10 [.ref m1] := .cons (hz1.tup hm1 (by omega)) .nil
  refine ⟨_, rfl, _, rfl, c, xs, (a : Int), _, rfl, Ke.tup b12 hc46, hX6.ke b12, td_non, by omega, fun G11 m2 zs2 k11 hm2 hz2 hl2 => ?_⟩
  have b13 := Kx.trans b12 k11
  have hs2 := (hs1.ke k11).cons (hz2.tup hm2 (by omega))
  refine ⟨_, rfl, _, rfl, _, rfl, c, xs, (a : Int), _, rfl, Ke.tup b13 hc46, hX6.ke b13, dc1.ke b13, by omega, fun G12 m3 zs3 k12 hm3 hz3 hl3 => ?_⟩
  have b14 := Kx.trans b13 k12
  have hs3 := (hs2.ke k12).cons (hz3.tup hm3 (by omega))
  have dmo12 := ((dmo.ke k10).ke k11).ke k12
  refine ⟨by show 3 ≤ sizeLine; decide, fun M1 nM1 => ?_⟩
  have gM1 : (upd G12 M1 (.lst [.ref m1, .ref m2, .ref m3])) M1 = some (.lst [.ref m1, .ref m2, .ref m3]) := upd_same
  have b15 := Kx.trans b14 (Ke.new (o := .lst [.ref m1, .ref m2, .ref m3]) nM1)
  have hs4 : ThD (upd G12 M1 (.lst [.ref m1, .ref m2, .ref m3])) [.ref m1, .ref m2, .ref m3] := (hs3.sub (by simp)).new nM1
  have dmo13 := dmo12.new (o := .lst [.ref m1, .ref m2, .ref m3]) nM1
  generalize upd G12 M1 (.lst [.ref m1, .ref m2, .ref m3]) = G13 at *
  refine ⟨_, rfl, _, rfl, _, rfl, _, rfl, c, xs, (a : Int), _, rfl, Ke.tup b15 hc46, hX6.ke b15, dmo13, by omega, fun G14 m4 zs4 k14 hm4 hz4 hl4 => ?_⟩
  have b16 := Kx.trans b15 k14
  have gM14 := Ke.lst k14 gM1
  have hs5 := (hs4.ke k14).cons (hz4.tup hm4 (by omega))
  refine ⟨_, rfl, _, rfl, _, rfl, o, _, rfl, .inr (sqT_of (Ke.tup b16 go6)), fun l5 nl5 => ?_⟩
  have b17 := Kx.trans b16 (Ke.new (o := .lst (ls.map V.int)) nl5)
  have gM15 := lst_new (o := .lst (ls.map V.int)) nl5 gM14
  have hs6 := hs5.new (o := .lst (ls.map V.int)) nl5
  have dl5 : DT 5 (upd G14 l5 (.lst (ls.map V.int))) (.ref l5) := td_lst upd_same
  generalize upd G14 l5 (.lst (ls.map V.int)) = G15 at *
  refine ⟨c, xs, (a : Int), _, rfl, Ke.tup b17 hc46, hX6.ke b17, dl5, by omega, fun G16 m5 zs5 k16 hm5 hz5 hl5 => ?_⟩
  have b18 := Kx.trans b17 k16
  have gM16 := Ke.lst k16 gM15
  have hs7 := (hs6.ke k16).cons (hz5.tup hm5 (by omega))
  have e1' := cutV_length xs none (some (a : Int))
  have e2' := cutV_length xs (some ((a : Int) + 1)) none
  refine ⟨_, rfl, _, rfl, _, rfl, c, _, rfl, Ke.tup b18 hc46, fun f1 G17 k17 hf1 => ?_⟩
  have b19 := Kx.trans b18 k17
  refine ⟨_, rfl, _, rfl, _, _, rfl, rfl, _, rfl, c, _, rfl, Ke.tup b19 hc46, fun f2 G18 k18 hf2 => ?_⟩
  have b20 := Kx.trans b19 k18
  refine ⟨f1, f2, _, _, rfl, rfl, Ke.tup k18 hf1, hf2, by omega, fun m6 G19 k19 hm6 => ?_⟩
  have b21 := Kx.trans b20 k19
  have gM19 := Ke.lst k19 (Ke.lst k18 (Ke.lst k17 gM16))
  have hs8 := (((hs7.ke k17).ke k18).ke k19).cons (((hX6.ke b21).cut.app (hX6.ke b21).cut).tup hm6 (by rw [List.length_append]; omega))
  refine ⟨by show 3 ≤ sizeLine; decide, fun M2 nM2 => ?_⟩
  have gM2 : (upd G19 M2 (.lst [.ref m4, .ref m5, .ref m6])) M2 = some (.lst [.ref m4, .ref m5, .ref m6]) := upd_same
  have b22 := Kx.trans b21 (Ke.new (o := .lst [.ref m4, .ref m5, .ref m6]) nM2)
  have gM20 := lst_new (o := .lst [.ref m4, .ref m5, .ref m6]) nM2 gM19
  have hs9 := hs8.new (o := .lst [.ref m4, .ref m5, .ref m6]) nM2
  generalize upd G19 M2 (.lst [.ref m4, .ref m5, .ref m6]) = G20 at *
  refine ⟨M1, M2, _, _, rfl, rfl, gM20, gM2, by show 6 ≤ sizeLine; decide, fun M nM => ?_⟩
  have gM : (upd G20 M (.lst ([.ref m1, .ref m2, .ref m3] ++ [.ref m4, .ref m5, .ref m6]))) M = some (.lst [.ref m1, .ref m2, .ref m3, .ref m4, .ref m5, .ref m6]) := upd_same
  have b23 := Kx.trans b22 (Ke.new (o := .lst ([.ref m1, .ref m2, .ref m3] ++ [.ref m4, .ref m5, .ref m6])) nM)
  have hsM : ThD (upd G20 M (.lst ([.ref m1, .ref m2, .ref m3] ++ [.ref m4, .ref m5, .ref m6]))) [.ref m1, .ref m2, .ref m3, .ref m4, .ref m5, .ref m6] := (hs9.sub (fun y hy => by
    simp only [List.mem_cons, List.not_mem_nil, or_false] at hy
    rcases hy with rfl | rfl | rfl | rfl | rfl | rfl <;> simp)).new nM
  have nMp : M ≠ p := ((d6.ke b22).ne nM).symm
  have nM6 : G6 M = none := b22.dom _ nM
  generalize upd G20 M (.lst ([.ref m1, .ref m2, .ref m3] ++ [.ref m4, .ref m5, .ref m6])) = G21 at *
  clear hs1 hs2 hs3 hs4 hs5 hs6 hs7 hs8 hs9 dmo13 dmo12
  refine ⟨_, rfl, .inl ⟨rfl, _, sqL_of gM⟩, _, rfl, _, rfl, _, rfl, o, _, rfl, sqT_of (Ke.tup b23 go6), fun rv nrv => ?_⟩
  have b24 := Kx.trans b23 (Ke.new (o := .tup (ls.map V.int).reverse) nrv)
  have gMa := lst_new (o := .tup (ls.map V.int).reverse) nrv gM
  have hsMa := hsM.new (o := .tup (ls.map V.int).reverse) nrv
  have drv : DT 5 (upd G21 rv (.tup (ls.map V.int).reverse)) (.ref rv) := (ThD.ints ls).rev.tup upd_same (by rw [List.length_reverse, List.length_map]; omega)
  generalize upd G21 rv (.tup (ls.map V.int).reverse) = G22 at *
  refine ⟨c, xs, (a : Int), _, rfl, Ke.tup b24 hc46, hX6.ke b24, drv, by omega, fun G23 m7 zs7 k23 hm7 hz7 hl7 => ?_⟩
  have b25 := Kx.trans b24 k23
  have gMb := Ke.lst k23 gMa
  have hsMb := (hsMa.ke k23).app (.cons (hz7.tup hm7 (by omega)) .nil)
  refine ⟨M, _, _, rfl, rfl, gMb, by show 6 < sizeLine; omega, ?_⟩
  have gMc : (upd G23 M (.lst ([.ref m1, .ref m2, .ref m3, .ref m4, .ref m5, .ref m6] ++ [.ref m7]))) M = some (.lst [.ref m1, .ref m2, .ref m3, .ref m4, .ref m5, .ref m6, .ref m7]) := upd_same
  have hsMc := hsMb.put (ys := [.ref m1, .ref m2, .ref m3, .ref m4, .ref m5, .ref m6] ++ [.ref m7]) gMb
  have b26 := Kx.over b25 nM6 (o := .lst ([.ref m1, .ref m2, .ref m3, .ref m4, .ref m5, .ref m6] ++ [.ref m7]))
  generalize upd G23 M (.lst ([.ref m1, .ref m2, .ref m3, .ref m4, .ref m5, .ref m6] ++ [.ref m7])) = G24 at *
  have kD := kB9.trans (Dk.refl kB9.d)
  have d24 : Deck G24 p := d6.ke b26
  refine ⟨_, rfl, .inl ⟨rfl, _, sqL_of gMc⟩, _, rfl, _, rfl, _, rfl, _, rfl, p, rfl, d24, fun r3 G25 t0 t1' k25 => ?_⟩
  have tp25 : ∀ q zs, G6 q = some (.tup zs) → G25 q = some (.tup zs) := fun q zs e => k25.tup d24 (Ke.tup b26 e)
  have glo25 := k25.lst (Ke.lst b26 glo6) lo4p
  have gMd := k25.lst gMc nMp
  have hsMd := hsMc.dk k25 d24
  have hO25 := (hO6.ke b26).dk k25 d24
  have hX25 := (hX6.ke b26).dk k25 d24
  have kE : Dk p H G25 := (kCx.ke b26).trans k25
  obtain ⟨od, hod, hodm⟩ := pickI (r := r3) (m := os.length) (ls := os) hop rfl
  refine ⟨_, rfl, lo4, _, rfl, .inl (sqL_of glo25), _, _, rfl, rfl, by show (0 : Int) < (os.length : Int); omega, lo4, _, _, _, rfl, rfl, sqL_of glo25, hod, ?_⟩
  refine ⟨c, xs, (a : Int), _, rfl, tp25 _ _ hc46, hX25, hO25.all od hodm, by omega, fun G26 m8 zs8 k26 hm8 hz8 hl8 => ?_⟩
  have gMe := Ke.lst k26 gMd
  have hsMe := (hsMd.ke k26).app (.cons (hz8.tup hm8 (by omega)) .nil)
  refine ⟨M, _, _, rfl, rfl, gMe, by show 7 < sizeLine; omega, ?_⟩
  have gMf : (upd G26 M (.lst ([.ref m1, .ref m2, .ref m3, .ref m4, .ref m5, .ref m6, .ref m7] ++ [.ref m8]))) M = some (.lst [.ref m1, .ref m2, .ref m3, .ref m4, .ref m5, .ref m6, .ref m7, .ref m8]) := upd_same
  have hsMf := hsMe.put (ys := [.ref m1, .ref m2, .ref m3, .ref m4, .ref m5, .ref m6, .ref m7] ++ [.ref m8]) gMe
  have kF : Kx (fun b => b = M) G25 (upd G26 M (.lst ([.ref m1, .ref m2, .ref m3, .ref m4, .ref m5, .ref m6, .ref m7] ++ [.ref m8]))) := (Ke.to k26).trans (Ke.put gMe fun _ z => nomatch z)
  have d25 := k25.d
  have nMH : H M = none := kCx.k.dom _ nM6
  have kG : Dk p H (upd G26 M (.lst ([.ref m1, .ref m2, .ref m3, .ref m4, .ref m5, .ref m6, .ref m7] ++ [.ref m8]))) := (kE.ke k26).over hd nMH
  have tpF : ∀ q zs, G25 q = some (.tup zs) → (upd G26 M (.lst ([.ref m1, .ref m2, .ref m3, .ref m4, .ref m5, .ref m6, .ref m7] ++ [.ref m8]))) q = some (.tup zs) := fun q zs e => by
    rw [upd_ne fun w => by rw [w, gMd] at e; cases e]
    exact Ke.tup k26 e
  have hXF := (hX25.ke k26).put (ys := [.ref m1, .ref m2, .ref m3, .ref m4, .ref m5, .ref m6, .ref m7] ++ [.ref m8]) gMe
  generalize upd G26 M (.lst ([.ref m1, .ref m2, .ref m3, .ref m4, .ref m5, .ref m6, .ref m7] ++ [.ref m8])) = G27 at *
  have goF := tpF _ _ (tp25 _ _ go6)
  have hcF := tpF _ _ (tp25 _ _ hc46)
  clear hsM hsMa hsMb hsMc hsMd hsMe b7 b8 b11 b12 b13 b14 b15 b16 b17 b18 b19 b20 b21 b22 b23 b24 b25 b26
  refine ⟨_, rfl, by show 1 ≤ sizeLine; decide, fun u1 nu1 => ?_⟩
  have gu1 : (upd G27 u1 (.tup [.int 1])) u1 = some (.tup [.int 1]) := upd_same
  have v1 := Ke.new (S := fun _ => False) (o := .tup [.int 1]) nu1
  have gM28 := lst_new (o := .tup [.int 1]) nu1 gMf
  have hs28 := hsMf.new (o := .tup [.int 1]) nu1
  generalize upd G27 u1 (.tup [.int 1]) = G28 at *
  refine ⟨o, u1, _, _, rfl, rfl, sqT_of (Ke.tup v1 goF), sqT_of gu1, fun z => hL.ne (List.map_eq_nil_iff.mp z), (fun z => nomatch z), by rw [List.length_map]; show ls.length + 1 ≤ sizeLine; omega, fun e8 G29 v2 he8 => ?_⟩
  have v3 := Kx.trans v1 v2
  obtain ⟨j1, hj1, hj2⟩ := firstI (l := ls ++ [1]) (x := 1) (List.mem_append_right _ List.mem_cons_self)
  have he8' : SqT K G29 e8 ((ls ++ [1]).map V.int) := by
    rw [List.map_append]
    exact he8.sq
  have hl0 : 0 < ls.length := List.length_pos_iff.mpr hL.ne
  refine ⟨⟨e8, _, rfl, he8⟩, e8, ls ++ [1], 1, j1, rfl, rfl, he8', hj1, hj2, ?_⟩
  have go29 := Ke.tup v3 goF
  have e3 := emod_bds (j1 : Int) (n := (ls.length : Int)) (by omega)
  refine ⟨_, rfl, o, _, rfl, .inr (sqT_of go29), _, _, rfl, rfl, by rw [List.length_map]; show (0 : Int) < (ls.length : Int); omega, ?_⟩
  rw [List.length_map]
  obtain ⟨sp, esp⟩ : ∃ sp : Nat, (j1 : Int) % (ls.length : Int) = (sp : Int) := ⟨((j1 : Int) % (ls.length : Int)).toNat, by omega⟩
  dsimp -proj -iota only
  rw [esp]
  refine ⟨by show 1 ≤ sizeLine; decide, fun w1 nw1 => ?_⟩
  have v4 := Kx.trans v3 (Ke.new (o := .lst [.int 0]) nw1)
  have dw1 : DT 5 (upd G29 w1 (.lst [.int 0])) (.ref w1) := td_lst upd_same
  have gM30 := lst_new (o := .lst [.int 0]) nw1 (Ke.lst v2 gM28)
  have hs30 := (hs28.ke v2).new (o := .lst [.int 0]) nw1
  generalize upd G29 w1 (.lst [.int 0]) = G30 at *
  refine ⟨by show 4 ≤ sizeLine; decide, fun w2 nw2 => ?_⟩
  have v5 := Kx.trans v4 (Ke.new (o := .lst [.bl true, .non, .str "0", .ref w1]) nw2)
  have gw2 : (upd G30 w2 (.lst [.bl true, .non, .str "0", .ref w1])) w2 = some (.lst [.bl true, .non, .str "0", .ref w1]) := upd_same
  have hw2 : ThD (upd G30 w2 (.lst [.bl true, .non, .str "0", .ref w1])) [.bl true, .non, .str "0", .ref w1] := (ThD.cons (td_bl true) (ThD.cons td_non (ThD.cons (td_str "0") (ThD.cons dw1 .nil)))).new nw2
  have gM31 := lst_new (o := .lst [.bl true, .non, .str "0", .ref w1]) nw2 gM30
  have hs31 := hs30.new (o := .lst [.bl true, .non, .str "0", .ref w1]) nw2
  have w2M : w2 ≠ M := (ne_of_none gM30 nw2).symm
  generalize upd G30 w2 (.lst [.bl true, .non, .str "0", .ref w1]) = G31 at *
  have kG31 := kG.ke v5
  refine ⟨w2, rfl, ⟨_, sqL_of gw2⟩, ?_⟩
  refine for_list (K := K) (a := w2) (xs := [.bl true, .non, .str "0", .ref w1]) (fun i σ G => ∃ (y12 : Option V) (ms : List V), σ = [some (.ref p), some (.ref tw), some (.ref c), some (.int r), some (.int (a : Int)), some (.ref la), some (.ref lo4), some (.ref o), some (.ref c1), some (.ref mo), some (.ref M), some (.int (sp : Int)), y12] ∧ Dk p H G ∧ G c = some (.tup xs) ∧ G o = some (.tup (ls.map V.int)) ∧ ThD G xs ∧ G w2 = some (.lst [.bl true, .non, .str "0", .ref w1]) ∧ ThD G [.bl true, .non, .str "0", .ref w1] ∧ G M = some (.lst ms) ∧ ThD G ms ∧ ms.length = 8 + i) ⟨_, _, rfl, kG31, Ke.tup v5 hcF, Ke.tup v5 goF, hXF.ke v5, gw2, hw2, gM31, hs31, rfl⟩ (fun i σ G _ hG => ?_) (fun i x σ G hx hG => ?_) (fun σ G hG => ?_)
  · obtain ⟨_, _, _, _, _, _, _, g, _⟩ := hG
    exact sqL_of g
  · obtain ⟨y12, ms, rfl, kGG, hcG, goG, hXG, gw2G, hwG, gMG, hsG, hml⟩ := hG
    have i4 : i < 4 := (List.getElem?_eq_some_iff.mp hx).1
    refine ⟨_, rfl, .inl ⟨rfl, _, sqL_of gMG⟩, _, rfl, _, rfl, _, rfl, _, rfl, _, rfl, o, _, rfl, goG, fun p1 A1 q1 hp1 => ?_⟩
    have cl1 := cutV_length (ls.map V.int) none (some (sp : Int))
    have cl2 := cutV_length (ls.map V.int) (some ((sp : Int) + 1)) none
    rw [List.length_map] at cl1 cl2
    refine ⟨_, rfl, by show 1 ≤ sizeLine; decide, fun p2 np2 => ?_⟩
    have q2 := q1.trans (Ke.new (o := .tup [x]) np2)
    have hp2 : (upd A1 p2 (.tup [x])) p2 = some (.tup [x]) := upd_same
    have hp1' := tup_new (o := .tup [x]) np2 hp1
    generalize upd A1 p2 (.tup [x]) = A2 at *
    refine ⟨p1, p2, _, _, rfl, rfl, hp1', hp2, by show (cutV (ls.map V.int) none (some (sp : Int))).length + 1 ≤ sizeLine; omega, fun p3 A3 q3 hp3 => ?_⟩
    have q4 := Kx.trans q2 q3
    refine ⟨_, rfl, _, rfl, _, _, rfl, rfl, _, rfl, o, _, rfl, Ke.tup q4 goG, fun p4 A4 q5 hp4 => ?_⟩
    refine ⟨p3, p4, _, _, rfl, rfl, Ke.tup q5 hp3, hp4, by rw [List.length_append]; show (cutV (ls.map V.int) none (some (sp : Int))).length + 1 + (cutV (ls.map V.int) (some ((sp : Int) + 1)) none).length ≤ sizeLine; omega, fun p5 A5 q6 hp5 => ?_⟩
    have q7 := (Kx.trans q4 q5).trans q6
    have hX7 := hXG.ke q7
    have d5' : DT 5 A5 (.ref p5) := (((ThD.ints ls).cut.app (.cons ((hwG.ke q7).all x (List.mem_of_getElem? hx)) .nil)).app (ThD.ints ls).cut).tup hp5 (by rw [List.length_append, List.length_append]; show (cutV (ls.map V.int) none (some (sp : Int))).length + 1 + (cutV (ls.map V.int) (some ((sp : Int) + 1)) none).length ≤ 1000; omega)
    refine ⟨c, xs, (a : Int), _, rfl, Ke.tup q7 hcG, hX7, d5', by omega, fun A6 m9 zs9 q8 hm9 hz9 hl9 => ?_⟩
    have q9 := Kx.trans q7 q8
    have gM9 := Ke.lst q9 gMG
    have hs9' := (hsG.ke q9).app (.cons (hz9.tup hm9 (by omega)) .nil)
    refine ⟨M, _, _, rfl, rfl, gM9, by omega, ?_⟩
    have tp9 : ∀ q zs, A6 q = some (.tup zs) → (upd A6 M (.lst (ms ++ [.ref m9]))) q = some (.tup zs) := fun q zs e => by
      rw [upd_ne fun w => by rw [w, gM9] at e; cases e]
      exact e
    refine ⟨_, ms ++ [.ref m9], rfl, (kGG.ke q9).over hd nMH, tp9 _ _ (Ke.tup q9 hcG), tp9 _ _ (Ke.tup q9 goG), (hX7.ke q8).put gM9, ?_, (hwG.ke q9).put gM9, upd_same, hs9'.put gM9, by rw [List.length_append, hml]; show 8 + i + 1 = 8 + (i + 1); omega⟩
    rw [upd_ne w2M]
    exact Ke.lst q9 gw2G
  · obtain ⟨y12, ms, rfl, kGG, hcG, goG, hXG, gw2G, hwG, gMG, hsG, hml⟩ := hG
    obtain ⟨x, hx, hm⟩ := pickI (r := r) (m := 12) (ls := ms) (by decide) hml
    exact ⟨_, rfl, _, rfl, _, _, rfl, rfl, by show (0 : Int) < 12; decide, M, _, _, _, rfl, rfl, sqL_of gMG, hx, q _ x kGG (hsG.all x hm)⟩
theorem ok__law_bent {P : Program} {w : World} {K : PySem.W.Frag} {mg : Str → Option Value} {base : Heap} {tb : List Addr} {lt : List (Addr × Str)} {f : Addr} {fd : FuncData} {f__law_next : Addr} {fd__law_next : FuncData} {f__law_odd_things : Addr} {fd__law_odd_things : FuncData} {f__law_laying_bent : Addr} {fd__law_laying_bent : FuncData} {f__law_reasons_bent : Addr} {fd__law_reasons_bent : FuncData} (T : Blt mg) (D__law_bent : DefAt K mg "_law_bent" s_law_bent ["_law_deck_here", "_law_web_here", "_law_k", "_law_paper_here"] f fd) (LO : LtOk lt) (D__law_next : DefAt K mg "_law_next" s_law_next ["_law_deck_here"] f__law_next fd__law_next) (G__law_next : FnOk P w K mg base CX0 1 f__law_next fd__law_next ["_law_deck_here"] (sp__law_next K tb)) (D__law_odd_things : DefAt K mg "_law_odd_things" s_law_odd_things [] f__law_odd_things fd__law_odd_things) (G__law_odd_things : FnOk P w K mg base CX0 1 f__law_odd_things fd__law_odd_things [] (sp__law_odd_things K tb)) (D__law_laying_bent : DefAt K mg "_law_laying_bent" s_law_laying_bent ["_law_deck_here", "_law_k", "_law_laying"] f__law_laying_bent fd__law_laying_bent) (G__law_laying_bent : FnOk P w K mg base CX0 2 f__law_laying_bent fd__law_laying_bent ["_law_deck_here", "_law_k", "_law_laying"] (sp__law_laying_bent K tb)) (D__law_reasons_bent : DefAt K mg "_law_reasons_bent" s_law_reasons_bent ["_law_deck_here", "_law_web_here", "_law_reasons"] f__law_reasons_bent fd__law_reasons_bent) (G__law_reasons_bent : FnOk P w K mg base CX0 3 f__law_reasons_bent fd__law_reasons_bent ["_law_deck_here", "_law_web_here", "_law_reasons"] (sp__law_reasons_bent K tb)) :
    FnOk P w K mg base CX0 4 f fd ["_law_deck_here", "_law_web_here", "_law_k", "_law_paper_here"] (sp__law_bent K tb) := by
  refine D__law_bent.ok sc__law_bent (fun vs H Q E h => by
    obtain ⟨p, v, n, ts, k, x, u, c, ws, xs, lo, rfl, hd, W, hn1, hn2, hk0, hk1, hx, hu, hws, hc, hlo, hlot, hwl, hxl, q⟩ := h
    all_goals rfl) fun A outer s H vs Q E hr h => ?_
  obtain ⟨p, v, n, ts, k, x, u, c, ws, xs, lo, rfl, hd, W, hn1, hn2, hk0, hk1, hx, hu, hws, hc, hlo, hlot, hwl, hxl, q⟩ := h
  refine ⟨_, pss_cons (ps_asg (pv 3) (tgtK (K := K) (n := 2) (pgs_cons (pg_name (i := 4) sc__law_bent.nd rfl (.inl rfl)) (pgs_cons (pg_name (i := 5) sc__law_bent.nd rfl (.inl rfl)) pgs_nil))))
     (pss_cons (ps_set (i := 6) sc__law_bent.nd rfl (.inl rfl) (pe_call G__law_next (hr.mono (by decide)) (by rfl) D__law_next.g D__law_next.F.kp D__law_next.b .nil pass0 (pa_cons (pv 0) pa_nil)))
     (pss_cons (ps_set (i := 7) sc__law_bent.nd rfl (.inl rfl) (pe_call0 G__law_odd_things (hr.mono (by decide)) (by rfl) D__law_odd_things.g D__law_odd_things.F.kp D__law_odd_things.b .nil pass0))
     (pss_cons (ps_if (pt_cmpR op_lt (pe_op op_mod (pv 6) (pe_int)) (pe_int) (nomark _))
     (pss_one (ps_ret (pe_tup (pa_cons (pe_call G__law_laying_bent (hr.mono (by decide)) (by rfl) D__law_laying_bent.g D__law_laying_bent.F.kp D__law_laying_bent.b .nil pass0 (pa_cons (pv 0) (pa_cons (pv 2) (pa_cons (pv 4) pa_nil)))) (pa_cons (pv 5) pa_nil)))))
     (pss_nil))
     (pss_cons (ps_if (pt_cmpR op_lt (pe_op op_mod (pv 6) (pe_int)) (pe_int) (nomark _))
     (pss_one (ps_ret (pe_tup (pa_cons (pv 4) (pa_cons (pe_call G__law_reasons_bent (hr.mono (by decide)) (by rfl) D__law_reasons_bent.g D__law_reasons_bent.F.kp D__law_reasons_bent.b .nil pass0 (pa_cons (pv 0) (pa_cons (pv 1) (pa_cons (pv 5) pa_nil)))) pa_nil)))))
     (pss_nil))
     (pss_cons (ps_set (i := 8) sc__law_bent.nd rfl (.inl rfl) (pe_ix (ix_listK (K := K)) (pv 7) (pe_op op_mod (pe_call G__law_next (hr.mono (by decide)) (by rfl) D__law_next.g D__law_next.F.kp D__law_next.b .nil pass0 (pa_cons (pv 0) pa_nil)) (pe_callB (lenK (K := K)) (by rfl) T.b_len PySem.boot_len (pa_cons (pv 7) pa_nil))) (fun _ _ => rfl)))
     (pss_cons (ps_if (pt_cmpR op_eq (pe_op op_mod (pv 6) (pe_int)) (pe_int) (nomark _))
     (pss_one (ps_ret (pe_ix (ix_listK (K := K)) (pe_lst (pa_cons (pv 8) (pa_cons (pe_tup (pa_cons (pv 4) (pa_cons (pv 8) pa_nil))) (pa_cons (pe_tup (pa_cons (pv 8) (pa_cons (pv 5) pa_nil))) (pa_cons (pe_tup (pa_cons (pv 4) (pa_cons (pv 5) (pa_cons (pv 8) pa_nil)))) pa_nil))))) (pe_op op_mod (pe_op op_fdiv (pv 6) (pe_int)) (pe_int)) (fun _ _ => rfl))))
     (pss_nil))
     (pss_one (ps_ret (pe_ix (ix_listK (K := K)) (pe_lst (pa_cons (pe_lst (pa_cons (pv 4) (pa_cons (pv 5) pa_nil))) (pa_cons (pe_tup (pa_cons (pv 4) pa_nil)) (pa_cons (pe_tup (pa_cons (pv 5) (pa_cons (pv 4) pa_nil))) (pa_cons (pe_tup (pa_cons (pe_str) (pa_cons (pv 3) pa_nil))) pa_nil))))) (pe_op op_mod (pe_op op_fdiv (pv 6) (pe_int)) (pe_int)) (fun _ _ => rfl)))))))))), ?_⟩
  have LB := line_big
  have hlx := hlo.length
  have hXs : ∀ {G : Hp}, LoP G xs lo → ThD G xs := fun {G} h => ⟨fun y hy => by
    obtain ⟨j, hj⟩ := List.getElem?_of_mem hy
    obtain ⟨o, ho, hv⟩ := h.get hj
    cases o with
    | none =>
      rw [show y = V.non from hv]
      exact td_non
    | some ls =>
      obtain ⟨q, rfl, hq⟩ := hv
      have := (hlot _ (List.mem_of_getElem? ho) ls rfl).le
      exact DT.ints hq (by omega)⟩
  refine ⟨_, rfl, x, _, rfl, sqT_of hx, rfl, _, _, rfl, _, [], rfl, rfl, ?_⟩
  refine ⟨_, rfl, p, rfl, hd, fun r G1 r0 r1 k1 => ?_⟩
  have d1 := k1.d
  refine ⟨rfl, fun G2 lo4 os k2 nlo4 glo4 hO hol hop => ?_⟩
  have kB := k1.ke k2
  have tpB : ∀ q zs, H q = some (.tup zs) → G2 q = some (.tup zs) := fun q zs e => Ke.tup k2 (k1.tup hd e)
  have hx2 := tpB _ _ hx
  have hu2 := tpB _ _ hu
  have hc2 := tpB _ _ hc
  have hlo2 : LoP G2 xs lo := hlo.mono tpB
  have hws2 := (hws.dk k1 hd).ke k2
  have W2 := W.mono tpB
  have d2 := kB.d
  have hX2 := hXs hlo2
  have du : DT 5 G2 (.ref u) := hws2.tup hu2 (by omega)
  have dc : DT 5 G2 (.ref c) := hX2.tup hc2 (by omega)
  have hlo4p : lo4 ≠ p := (d1.ne nlo4).symm
  clear hlo hws W
  refine ⟨_, rfl, _, _, rfl, rfl, by show (0 : Int) < 8; decide, _, _, rfl, rfl, _, rfl, iteB (fun _ => ?_) (fun _ => ?_)⟩
  · refine ⟨_, rfl, _, rfl, _, rfl, p, k, u, ws, rfl, d2, hu2, hws2, hwl, hk0, hk1, fun G3 v3 k3 dv3 => ?_⟩
    have dc3 := dc.dk k3 d2
    refine ⟨_, rfl, by show 2 ≤ sizeLine; decide, fun t nt => ?_⟩
    exact q _ _ ((kB.trans k3).ke (Ke.new nt)) (((ThD.cons dv3 (ThD.cons dc3 .nil)).new nt).tup upd_same)
  refine ⟨_, rfl, _, _, rfl, rfl, by show (0 : Int) < 8; decide, _, _, rfl, rfl, _, rfl, iteB (fun _ => ?_) (fun _ => ?_)⟩
  · refine ⟨_, rfl, _, rfl, _, rfl, _, rfl, p, v, n, ts, c, xs, lo, rfl, d2, W2, hn1, hn2, hc2, hlo2, hlot, hxl, fun G3 v3 k3 dv3 => ?_⟩
    have du3 := du.dk k3 d2
    refine ⟨by show 2 ≤ sizeLine; decide, fun t nt => ?_⟩
    exact q _ _ ((kB.trans k3).ke (Ke.new nt)) (((ThD.cons du3 (ThD.cons dv3 .nil)).new nt).tup upd_same)
  refine ⟨_, rfl, _, rfl, p, rfl, d2, fun r3 G3 t0 t1 k3 => ?_⟩
  have kC := kB.trans k3
  have glo3 := k3.lst glo4 hlo4p
  have hO3 := hO.dk k3 d2
  have du3 := du.dk k3 d2
  have dc3 := dc.dk k3 d2
  have hx3 := k3.tup d2 hx2
  have dx3 : DT 5 G3 (.ref x) := (ThD.cons du3 (ThD.cons dc3 .nil)).tup hx3
  obtain ⟨od, hod, hodm⟩ := pickI (r := r3) (m := os.length) (ls := os) hop rfl
  refine ⟨_, rfl, lo4, _, rfl, .inl (sqL_of glo3), _, _, rfl, rfl, by show (0 : Int) < (os.length : Int); omega, lo4, _, _, _, rfl, rfl, sqL_of glo3, hod, ?_⟩
  have dod := hO3.all od hodm
  have hs0 : ThD G3 [od, .ref u, .ref c, .ref x] := .cons dod (.cons du3 (.cons dc3 (.cons dx3 .nil)))
  refine ⟨_, rfl, _, _, rfl, rfl, by show (0 : Int) < 8; decide, rfl, _, rfl, iteB (fun _ => ?_) (fun _ => ?_)⟩
  · refine ⟨_, rfl, _, rfl, _, rfl, by show 2 ≤ sizeLine; decide, fun p1 np1 => ?_⟩
    have hs1 := (hs0.new (o := .tup [.ref u, od]) np1).cons (((hs0.sub (ys := [.ref u, od]) (by simp)).new np1).tup upd_same)
    have kk1 := kC.ke (Ke.new (o := .tup [.ref u, od]) np1)
    generalize upd G3 p1 (.tup [.ref u, od]) = G4 at *
    refine ⟨_, rfl, _, rfl, by show 2 ≤ sizeLine; decide, fun p2 np2 => ?_⟩
    have hs2 := (hs1.new (o := .tup [od, .ref c]) np2).cons (((hs1.sub (ys := [od, .ref c]) (by simp)).new np2).tup upd_same)
    have kk2 := kk1.ke (Ke.new (o := .tup [od, .ref c]) np2)
    generalize upd G4 p2 (.tup [od, .ref c]) = G5 at *
    refine ⟨_, rfl, _, rfl, _, rfl, by show 3 ≤ sizeLine; decide, fun p3 np3 => ?_⟩
    have hs3 := (hs2.new (o := .tup [.ref u, .ref c, od]) np3).cons (((hs2.sub (ys := [.ref u, .ref c, od]) (by simp)).new np3).tup upd_same)
    have kk3 := kk2.ke (Ke.new (o := .tup [.ref u, .ref c, od]) np3)
    generalize upd G5 p3 (.tup [.ref u, .ref c, od]) = G6 at *
    refine ⟨by show 4 ≤ sizeLine; decide, fun L nL => ?_⟩
    have hs4 : ThD (upd G6 L (.lst [od, .ref p1, .ref p2, .ref p3])) [od, .ref p1, .ref p2, .ref p3] := (hs3.sub (by simp)).new nL
    obtain ⟨y, hy, hm⟩ := pickI (r := r / 8) (m := 4) (ls := [od, .ref p1, .ref p2, .ref p3]) (by decide) rfl
    exact ⟨_, rfl, _, _, rfl, rfl, ⟨by decide, by omega⟩, _, _, rfl, rfl, by show (0 : Int) < 4; decide, L, _, _, _, rfl, rfl, sqL_of upd_same, hy, q _ y (kk3.ke (Ke.new nL)) (hs4.all y hm)⟩
  · refine ⟨_, rfl, _, rfl, by show 2 ≤ sizeLine; decide, fun p0 np0 => ?_⟩
    have hs1 := (hs0.new (o := .lst [.ref u, .ref c]) np0).cons (td_lst upd_same)
    have kk1 := kC.ke (Ke.new (o := .lst [.ref u, .ref c]) np0)
    generalize upd G3 p0 (.lst [.ref u, .ref c]) = G4 at *
    refine ⟨_, rfl, by show 1 ≤ sizeLine; decide, fun p1 np1 => ?_⟩
    have hs2 := (hs1.new (o := .tup [.ref u]) np1).cons (((hs1.sub (ys := [.ref u]) (by simp)).new np1).tup upd_same)
    have kk2 := kk1.ke (Ke.new (o := .tup [.ref u]) np1)
    generalize upd G4 p1 (.tup [.ref u]) = G5 at *
    refine ⟨_, rfl, _, rfl, by show 2 ≤ sizeLine; decide, fun p2 np2 => ?_⟩
    have hs3 := (hs2.new (o := .tup [.ref c, .ref u]) np2).cons (((hs2.sub (ys := [.ref c, .ref u]) (by simp)).new np2).tup upd_same)
    have kk3 := kk2.ke (Ke.new (o := .tup [.ref c, .ref u]) np2)
    generalize upd G5 p2 (.tup [.ref c, .ref u]) = G6 at *
    refine ⟨_, rfl, by show 2 ≤ sizeLine; decide, fun p3 np3 => ?_⟩
    have hs4 := (hs3.new (o := .tup [.str "cheapest", .ref x]) np3).cons (((ThD.cons (td_str "cheapest") (hs3.sub (ys := [.ref x]) (by simp))).new np3).tup upd_same)
    have kk4 := kk3.ke (Ke.new (o := .tup [.str "cheapest", .ref x]) np3)
    generalize upd G6 p3 (.tup [.str "cheapest", .ref x]) = G7 at *
    refine ⟨by show 4 ≤ sizeLine; decide, fun L nL => ?_⟩
    have hs5 : ThD (upd G7 L (.lst [.ref p0, .ref p1, .ref p2, .ref p3])) [.ref p0, .ref p1, .ref p2, .ref p3] := (hs4.sub (by simp)).new nL
    obtain ⟨y, hy, hm⟩ := pickI (r := r / 8) (m := 4) (ls := [.ref p0, .ref p1, .ref p2, .ref p3]) (by decide) rfl
    exact ⟨_, rfl, _, _, rfl, rfl, ⟨by decide, by omega⟩, _, _, rfl, rfl, by show (0 : Int) < 4; decide, L, _, _, _, rfl, rfl, sqL_of upd_same, hy, q _ y (kk4.ke (Ke.new nL)) (hs5.all y hm)⟩
theorem ok_law {P : Program} {w : World} {K : PySem.W.Frag} {mg : Str → Option Value} {base : Heap} {tb : List Addr} {lt : List (Addr × Str)} {f : Addr} {fd : FuncData} {f_right_cheapest : Addr} {fd_right_cheapest : FuncData} {f__law_deck : Addr} {fd__law_deck : FuncData} {f__law_is_true : Addr} {fd__law_is_true : FuncData} {f__law_prices : Addr} {fd__law_prices : FuncData} {f__law_priced : Addr} {fd__law_priced : FuncData} {f__law_is_cheapest : Addr} {fd__law_is_cheapest : FuncData} {f__law_paper : Addr} {fd__law_paper : FuncData} {f__law_bent : Addr} {fd__law_bent : FuncData} (T : Blt mg) (D_law : DefAt K mg "law" s_law ["_law_script"] f fd) (LO : LtOk lt) (D_right_cheapest : DefAt K mg "right_cheapest" s_right_cheapest ["web", "k", "prices", "thing"] f_right_cheapest fd_right_cheapest) (G_right_cheapest : FnOk P w K mg base CX0 8 f_right_cheapest fd_right_cheapest ["web", "k", "prices", "thing"] (sp_right_cheapest K tb)) (D__law_deck : DefAt K mg "_law_deck" s_law_deck ["_law_script", "_law_many"] f__law_deck fd__law_deck) (G__law_deck : FnOk P w K mg base CX0 2 f__law_deck fd__law_deck ["_law_script", "_law_many"] (sp__law_deck K tb)) (D__law_is_true : DefAt K mg "_law_is_true" s_law_is_true ["_law_found", "_law_due"] f__law_is_true fd__law_is_true) (G__law_is_true : FnOk P w K mg base CX0 1 f__law_is_true fd__law_is_true ["_law_found", "_law_due"] (sp__law_is_true K tb)) (D__law_prices : DefAt K mg "_law_prices" s_law_prices ["_law_deck_here", "_law_many"] f__law_prices fd__law_prices) (G__law_prices : FnOk P w K mg base CX0 2 f__law_prices fd__law_prices ["_law_deck_here", "_law_many"] (sp__law_prices K tb)) (D__law_priced : DefAt K mg "_law_priced" s_law_priced ["_law_deck_here"] f__law_priced fd__law_priced) (G__law_priced : FnOk P w K mg base CX0 5 f__law_priced fd__law_priced ["_law_deck_here"] (sp__law_priced K tb)) (D__law_is_cheapest : DefAt K mg "_law_is_cheapest" s_law_is_cheapest ["_law_web_here", "_law_k", "_law_prices_here", "_law_thing"] f__law_is_cheapest fd__law_is_cheapest) (G__law_is_cheapest : FnOk P w K mg base CX0 4 f__law_is_cheapest fd__law_is_cheapest ["_law_web_here", "_law_k", "_law_prices_here", "_law_thing"] (sp__law_is_cheapest K tb)) (D__law_paper : DefAt K mg "_law_paper" s_law_paper ["_law_deck_here", "_law_web_here", "_law_k", "_law_prices_here"] f__law_paper fd__law_paper) (G__law_paper : FnOk P w K mg base CX0 6 f__law_paper fd__law_paper ["_law_deck_here", "_law_web_here", "_law_k", "_law_prices_here"] (sp__law_paper K tb lt)) (D__law_bent : DefAt K mg "_law_bent" s_law_bent ["_law_deck_here", "_law_web_here", "_law_k", "_law_paper_here"] f__law_bent fd__law_bent) (G__law_bent : FnOk P w K mg base CX0 4 f__law_bent fd__law_bent ["_law_deck_here", "_law_web_here", "_law_k", "_law_paper_here"] (sp__law_bent K tb)) :
    FnOkG P w K mg base CX0 9 f fd ["_law_script"] (sp_law K tb lt) := by
  refine D_law.okG sc_law (fun vs H Q E h => by
    obtain ⟨a, ns, rfl, hS, hlen, hTb, hLb, q⟩ := h
    all_goals rfl) fun A outer s H vs Q E hgd hr h => ?_
  obtain ⟨a, ns, rfl, hS, hlen, hTb, hLb, q⟩ := h
  refine ⟨_, pss_cons (ps_set (i := 1) sc_law.nd rfl (.inl rfl) (pe_call G__law_deck (hr.mono (by decide)) (by rfl) D__law_deck.g D__law_deck.F.kp D__law_deck.b .nil pass0 (pa_cons (pv 0) (pa_cons (pe_int) pa_nil))))
     (pss_cons (ps_for PassesOwn.never rfl (pi_range1 (by rfl) T.b_range (pa_cons (pe_int) pa_nil)) (pg_name (i := 2) sc_law.nd rfl (.inl rfl))
     (pss_cons (ps_asg (pe_call G__law_priced (hr.mono (by decide)) (by rfl) D__law_priced.g D__law_priced.F.kp D__law_priced.b .nil pass0 (pa_cons (pv 1) pa_nil)) (tgtK (K := K) (n := 3) (pgs_cons (pg_name (i := 3) sc_law.nd rfl (.inl rfl)) (pgs_cons (pg_name (i := 4) sc_law.nd rfl (.inl rfl)) (pgs_cons (pg_name (i := 5) sc_law.nd rfl (.inl rfl)) pgs_nil)))))
     (pss_cons (ps_set (i := 6) sc_law.nd rfl (.inl rfl) (pe_call G__law_paper (hr.mono (by decide)) (by rfl) D__law_paper.g D__law_paper.F.kp D__law_paper.b .nil pass0 (pa_cons (pv 1) (pa_cons (pv 3) (pa_cons (pv 4) (pa_cons (pv 5) pa_nil))))))
     (pss_cons (ps_set (i := 7) sc_law.nd rfl (.inl rfl) (pe_callTy (cr_strD (K := K) hgd hr.units) (by rfl) T.b_str (by decide +kernel) (pa_cons (pe_lst (pa_cons (pv 3) (pa_cons (pv 5) (pa_cons (pv 6) pa_nil)))) pa_nil)))
     (pss_cons (ps_for PassesOwn.never rfl (pi_range1 (by rfl) T.b_range (pa_cons (pe_int) pa_nil)) (pg_name (i := 8) sc_law.nd rfl (.inl rfl))
     (pss_cons (ps_set (i := 9) sc_law.nd rfl (.inl rfl) (pe_call G__law_bent (hr.mono (by decide)) (by rfl) D__law_bent.g D__law_bent.F.kp D__law_bent.b .nil pass0 (pa_cons (pv 1) (pa_cons (pv 3) (pa_cons (pv 4) (pa_cons (pv 6) pa_nil))))))
     (pss_cons (ps_set (i := 10) sc_law.nd rfl (.inl rfl) (pe_call G__law_is_cheapest (hr.mono (by decide)) (by rfl) D__law_is_cheapest.g D__law_is_cheapest.F.kp D__law_is_cheapest.b .nil pass0 (pa_cons (pv 3) (pa_cons (pv 4) (pa_cons (pv 5) (pa_cons (pv 9) pa_nil))))))
     (pss_one (ps_if (pt_not (pt_val (pe_call G__law_is_true (hr.mono (by decide)) (by rfl) D__law_is_true.g D__law_is_true.F.kp D__law_is_true.b .nil pass0 (pa_cons (pe_call G_right_cheapest (hr.mono (by decide)) (by rfl) D_right_cheapest.g D_right_cheapest.F.kp D_right_cheapest.b .nil pass0 (pa_cons (pv 3) (pa_cons (pv 4) (pa_cons (pv 5) (pa_cons (pv 9) pa_nil))))) (pa_cons (pv 10) pa_nil)))))
     (pss_one (ps_ret (pe_bl)))
     (pss_nil))))))
     (pss_cons (ps_set (i := 11) sc_law.nd rfl (.inl rfl) (pe_call G__law_prices (hr.mono (by decide)) (by rfl) D__law_prices.g D__law_prices.F.kp D__law_prices.b .nil pass0 (pa_cons (pv 1) (pa_cons (pe_callB (lenK (K := K)) (by rfl) T.b_len PySem.boot_len (pa_cons (pv 5) pa_nil)) pa_nil))))
     (pss_cons (ps_set (i := 10) sc_law.nd rfl (.inl rfl) (pe_call G__law_is_cheapest (hr.mono (by decide)) (by rfl) D__law_is_cheapest.g D__law_is_cheapest.F.kp D__law_is_cheapest.b .nil pass0 (pa_cons (pv 3) (pa_cons (pv 4) (pa_cons (pv 11) (pa_cons (pv 6) pa_nil))))))
     (pss_one (ps_if (PW.pt (pw_or (pt_not (pt_val (pe_call G__law_is_true (hr.mono (by decide)) (by rfl) D__law_is_true.g D__law_is_true.F.kp D__law_is_true.b .nil pass0 (pa_cons (pe_call G_right_cheapest (hr.mono (by decide)) (by rfl) D_right_cheapest.g D_right_cheapest.F.kp D_right_cheapest.b .nil pass0 (pa_cons (pv 3) (pa_cons (pv 4) (pa_cons (pv 11) (pa_cons (pv 6) pa_nil))))) (pa_cons (pv 10) pa_nil))))) (pw_or1 (pt_cmpR op_ne (pe_callTy (cr_strD (K := K) hgd hr.units) (by rfl) T.b_str (by decide +kernel) (pa_cons (pe_lst (pa_cons (pv 3) (pa_cons (pv 5) (pa_cons (pv 6) pa_nil)))) pa_nil)) (pv 7) (nomark _)))))
     (pss_one (ps_ret (pe_bl)))
     (pss_nil))))))))))
     (pss_one (ps_ret (pe_bl)))), ?_⟩
  have LB := line_big
  refine ⟨_, rfl, a, ns, 700, rfl, hS, hlen, by decide, by decide, fun p G0 np k0 hd => ?_⟩
  have hT0 : Tabs tb G0 := hTb.kx k0
  have hL0 : LTabs lt G0 := hLb.ke LO k0
  refine ⟨3, rfl, by decide, by decide, ?_⟩
  refine for_range (lo := 0) (n := 3) (fun i σ G => ∃ (y2 y3 y4 y5 y6 y7 y8 y9 y10 y11 : Option V), σ = [some (.ref a), some (.ref p), y2, y3, y4, y5, y6, y7, y8, y9, y10, y11] ∧ Deck G p ∧ Tabs tb G ∧ LTabs lt G) ⟨_, _, _, _, _, _, _, _, _, _, rfl, hd, hT0, hL0⟩ (fun i σ G hi hG => ?_) (fun σ G hG => ?_)
  rotate_left
  · exact q _
  obtain ⟨y2, y3, y4, y5, y6, y7, y8, y9, y10, y11, rfl, hd, hT0, hL0⟩ := hG
  refine ⟨_, rfl, p, rfl, hd, fun G1 t v n ts k pr ps k1 gt W hn1 hn2 hm hok hk0 hk1 hP hps => ?_⟩
  have hT1 := hT0.dk k1
  have hL1 := hL0.dk LO k1 hd
  have d1 := k1.d
  refine ⟨t, _, rfl, sqT_of gt, rfl, _, _, rfl, _, _, rfl, _, [], rfl, rfl, ?_⟩
  refine ⟨_, rfl, _, rfl, _, rfl, _, rfl, p, v, n, ts, k, pr, ps, rfl, d1, W, hP, hok, hn1, by omega, by omega, hk0, by omega, hL1, fun H0 G2 x u c ws xs lo kl hL0' kd hx hu hc hlo PP => ?_⟩
  have dl : Deck H0 p := kl.deck hL1 d1
  have tp2 : ∀ q zs, G1 q = some (.tup zs) → G2 q = some (.tup zs) := fun q zs e => kd.tup dl (kl.tup' hL1 _ _ e)
  have hT2 := (hT1.kx kl).dk kd
  have hL2 := hL0'.dk LO kd dl
  have d2 := kd.d
  have W2 := W.mono tp2
  have hpl := hP.len
  obtain ⟨⟨pa, rfl, gpr⟩, _⟩ := id hP
  have P2 : Prc G2 (.ref pa) ps ts.length := ⟨⟨pa, rfl, tp2 _ _ gpr⟩, hpl⟩
  refine ⟨_, rfl, _, rfl, _, rfl, by show 3 ≤ sizeLine; decide, fun s ns0 => ?_⟩
  have k3 := Ke.new (S := fun _ => False) (o := .lst [v, .ref pa, .ref x]) ns0
  have gs : (upd G2 s (.lst [v, .ref pa, .ref x])) s = some (.lst [v, .ref pa, .ref x]) := upd_same
  have shw := kept_sh PP (by omega) (show n ≤ 12 by omega) hok hps
  have hO := PP.lay.isO
  have W3 := W2.ke k3
  have P3 := P2.ke k3
  have hx3 := Ke.tup k3 hx
  have hu3 := Ke.tup k3 hu
  have hc3 := Ke.tup k3 hc
  have hlo3 := hlo.ke k3
  refine ⟨s, _, rfl, kept_dp gs W3 P3 hx3 hu3 hO hc3 hlo3, shw.sh, shw.hd, by have := shw.dp; omega, shw.fits (by omega), ?_⟩
  have hT3 := hT2.kx k3
  have hL3 := hL2.ke LO k3
  have d3 := d2.ke k3
  generalize upd G2 s (.lst [v, .ref pa, .ref x]) = G3 at *
  have hwl := PP.lay.len
  have hxl := hlo3.length
  have hPl := PP.len
  have hws3 : ThD G3 ws := ⟨fun y hy => by
    rcases PP.lay.each y hy with rfl | ⟨f, rfl, _⟩
    · exact td_non
    · exact td_int f⟩
  have hlotA : ∀ o ∈ lo, ∀ ls, o = some ls → Lot (n : Int) ls := fun o ho ls e => by
    subst e
    obtain ⟨j, hj⟩ := List.getElem?_of_mem ho
    have jl : j < ts.length := by have := (List.getElem?_eq_some_iff.mp hj).1; omega
    by_cases z : ws[j]? = some .non
    · obtain ⟨ls', e, hl, _⟩ := PP.no j jl z
      rw [hj] at e
      cases e
      exact hl
    · have := PP.yes j jl z
      rw [hj] at this
      cases this
  refine ⟨10, rfl, by decide, by decide, ?_⟩
  refine for_range (lo := 0) (n := 10) (fun j σ G => ∃ (y8 y9 y10 y11 : Option V), σ = [some (.ref a), some (.ref p), some (.int (0 + (i : Int))), some v, some (.int k), some (.ref pa), some (.ref x), some (.str (dKept (n : Int) ts ps ws lo).shown), y8, y9, y10, y11] ∧ Dk p G3 G ∧ Tabs tb G ∧ LTabs lt G) ⟨_, _, _, _, rfl, .refl d3, hT3, hL3⟩ (fun j σ G hj hG => ?_) (fun σ G hG => ?_)
  · obtain ⟨y8, y9, y10, y11, rfl, kG, hTG, hLG⟩ := hG
    have tpG : ∀ q zs, G3 q = some (.tup zs) → G q = some (.tup zs) := fun q zs e => kG.tup d3 e
    have WG := W3.mono tpG
    refine ⟨_, rfl, _, rfl, _, rfl, _, rfl, p, v, n, ts, k, x, u, c, ws, xs, lo, rfl, kG.d, WG, hn1, by omega, hk0, by omega, tpG _ _ hx3, tpG _ _ hu3, hws3.dk kG d3, tpG _ _ hc3, hlo3.mono tpG, hlotA, by omega, by omega, fun G4 w k4 dw => ?_⟩
    have kG4 := kG.trans k4
    have tp4 : ∀ q zs, G3 q = some (.tup zs) → G4 q = some (.tup zs) := fun q zs e => kG4.tup d3 e
    have W4 := W3.mono tp4
    have P4 : Prc G4 (.ref pa) ps ts.length := by
      obtain ⟨⟨_, e, g⟩, _⟩ := P3
      cases e
      exact ⟨⟨pa, rfl, tp4 _ _ g⟩, hpl⟩
    have dw3 : DT 3 G4 w := DT.low (e := 2) dw
    refine ⟨_, rfl, _, rfl, _, rfl, _, rfl, v, (n : Int), ts, k, _, ps, w, rfl, W4, hok, P4, by omega, by omega, by omega, hk0, by omega, dw3, fun G5 k5 => ?_⟩
    have hT4 := hTG.dk k4
    have hL4 := hLG.dk LO k4 kG.d
    refine ⟨_, rfl, _, rfl, _, rfl, _, rfl, v, (n : Int), ts, k, _, ps, w, rfl, W4.ke k5, P4.ke k5, hok, by omega, by omega, by omega, hk0, by omega, dw3.ke k5, hT4.kx k5, fun G6 k6 => ?_⟩
    rw [dw3.cheap k5]
    refine ⟨_, rfl, _, _, rfl, _, rfl, ?_⟩
    rw [decide_eq_true rfl]
    exact iteF ⟨_, _, _, _, rfl, (kG4.ke k5).ke k6, (hT4.kx k5).kx k6, (hL4.ke LO k5).ke LO k6⟩
  obtain ⟨y8, y9, y10, y11, rfl, kG, hTG, hLG⟩ := hG
  obtain ⟨⟨_, epa, gpr3⟩, _⟩ := id P3
  cases epa
  refine ⟨_, rfl, _, rfl, pa, _, rfl, .inr (sqT_of (kG.tup d3 gpr3)), ?_⟩
  rw [List.length_map, hpl]
  refine ⟨p, ts.length, rfl, kG.d, by omega, fun G4 v2 ps2 k4 P4o hps2 => ?_⟩
  have kG4 := kG.trans k4
  have tp4 : ∀ q zs, G3 q = some (.tup zs) → G4 q = some (.tup zs) := fun q zs e => kG4.tup d3 e
  have W4 := W3.mono tp4
  have P4 : Prc G4 (.ref pa) ps ts.length := ⟨⟨pa, rfl, tp4 _ _ gpr3⟩, hpl⟩
  have hx4 := tp4 _ _ hx3
  have hu4 := tp4 _ _ hu3
  have hc4 := tp4 _ _ hc3
  have hlo4 := hlo3.mono tp4
  obtain ⟨hdt, _⟩ := PP.cheap hx4 hu4 hc4 hlo4 (by omega) (by omega)
  have hT4 := hTG.dk k4
  have hL4 := hLG.dk LO k4 kG.d
  refine ⟨_, rfl, _, rfl, _, rfl, _, rfl, v, (n : Int), ts, k, _, ps2, _, rfl, W4, hok, P4o, by omega, by omega, by omega, hk0, by omega, hdt, fun G5 k5 => ?_⟩
  refine ⟨_, rfl, _, rfl, _, rfl, _, rfl, v, (n : Int), ts, k, _, ps2, _, rfl, W4.ke k5, P4o.ke k5, hok, by omega, by omega, by omega, hk0, by omega, hdt.ke k5, hT4.kx k5, fun G6 k6 => ?_⟩
  rw [hdt.cheap k5]
  refine ⟨_, rfl, _, _, rfl, _, rfl, ?_⟩
  rw [decide_eq_true rfl]
  refine iteF ?_
  have k56 := k5.trans k6
  refine ⟨_, rfl, _, rfl, _, rfl, by show 3 ≤ sizeLine; decide, fun s2 ns2 => ?_⟩
  have k7 := k56.trans (Ke.new (o := .lst [v, .ref pa, .ref x]) ns2)
  have gs2 : (upd G6 s2 (.lst [v, .ref pa, .ref x])) s2 = some (.lst [v, .ref pa, .ref x]) := upd_same
  refine ⟨s2, _, rfl, kept_dp gs2 (W4.ke k7) (P4.ke k7) (Ke.tup k7 hx4) (Ke.tup k7 hu4) hO (Ke.tup k7 hc4) (hlo4.ke k7), shw.sh, shw.hd, by have := shw.dp; omega, shw.fits (by omega), ?_⟩
  refine ⟨_, rfl, rfl, _, rfl, ?_⟩
  rw [decide_eq_true rfl]
  exact iteF ⟨_, _, _, _, _, _, _, _, _, _, rfl, (kG4.ke k7).d, hT4.kx k7, hL4.ke LO k7⟩
end FF
namespace FF
open PySem PySem.Spec PyProof.Rows L2
def tgl : List He.Defn := [("right_laying", none), ("right_cheapest", none)]
def tll : List (He.Defn × Str) := [(("_law_order", none), ("_law_order" : Str) ++ ".<locals>." ++ "<lambda>")]
def exK (K : PySem.W.Frag) : Bool := (tgl.all fun d => tll.all fun e => decide ((He.cT K d).2 ≠ (He.cT K e.1).2)) && (tll.all fun d => tll.all fun e => decide ((He.cT K d.1).2 = (He.cT K e.1).2 → d.2 = e.2))
/-! ### the head -/
def d_is_number : He.DefD := ⟨("is_number", none), "is_number", "is_number", defArgs s_is_number, defBody s_is_number, defScope s_is_number, [], []⟩
def d_is_rising : He.DefD := ⟨("is_rising", none), "is_rising", "is_rising", defArgs s_is_rising, defBody s_is_rising, defScope s_is_rising, [], []⟩
def d_leader_of : He.DefD := ⟨("leader_of", none), "leader_of", "leader_of", defArgs s_leader_of, defBody s_leader_of, defScope s_leader_of, [], []⟩
def d_join_points : He.DefD := ⟨("join_points", none), "join_points", "join_points", defArgs s_join_points, defBody s_join_points, defScope s_join_points, [], []⟩
def d_ringless : He.DefD := ⟨("ringless", none), "ringless", "ringless", defArgs s_ringless, defBody s_ringless, defScope s_ringless, [], []⟩
def d_right_laying : He.DefD := ⟨("right_laying", none), "right_laying", "right_laying", defArgs s_right_laying, defBody s_right_laying, defScope s_right_laying, [], []⟩
def d_ties_by_forest : He.DefD := ⟨("ties_by_forest", none), "ties_by_forest", "ties_by_forest", defArgs s_ties_by_forest, defBody s_ties_by_forest, defScope s_ties_by_forest, [], []⟩
def d_is_lot : He.DefD := ⟨("is_lot", none), "is_lot", "is_lot", defArgs s_is_lot, defBody s_is_lot, defScope s_is_lot, [], []⟩
def d_right_cheapest : He.DefD := ⟨("right_cheapest", none), "right_cheapest", "right_cheapest", defArgs s_right_cheapest, defBody s_right_cheapest, defScope s_right_cheapest, [], []⟩
def d_is_reason : He.DefD := ⟨("is_reason", none), "is_reason", "is_reason", defArgs s_is_reason, defBody s_is_reason, defScope s_is_reason, [], []⟩
def d_is_cheaper : He.DefD := ⟨("is_cheaper", none), "is_cheaper", "is_cheaper", defArgs s_is_cheaper, defBody s_is_cheaper, defScope s_is_cheaper, [], []⟩
def d_cheapness : He.DefD := ⟨("cheapness", none), "cheapness", "cheapness", defArgs s_cheapness, defBody s_cheapness, defScope s_cheapness, [], []⟩
def d_is_tight_by : He.DefD := ⟨("is_tight_by", none), "is_tight_by", "is_tight_by", defArgs s_is_tight_by, defBody s_is_tight_by, defScope s_is_tight_by, [], []⟩
def d_law_mixed : He.DefD := ⟨("_law_mixed", none), "_law_mixed", "_law_mixed", defArgs s_law_mixed, defBody s_law_mixed, defScope s_law_mixed, [], []⟩
def d_law_deck : He.DefD := ⟨("_law_deck", none), "_law_deck", "_law_deck", defArgs s_law_deck, defBody s_law_deck, defScope s_law_deck, [], []⟩
def d_law_next : He.DefD := ⟨("_law_next", none), "_law_next", "_law_next", defArgs s_law_next, defBody s_law_next, defScope s_law_next, [], []⟩
def d_law_tie : He.DefD := ⟨("_law_tie", none), "_law_tie", "_law_tie", defArgs s_law_tie, defBody s_law_tie, defScope s_law_tie, [], []⟩
def d_law_any_web : He.DefD := ⟨("_law_any_web", none), "_law_any_web", "_law_any_web", defArgs s_law_any_web, defBody s_law_any_web, defScope s_law_any_web, [], []⟩
def d_law_round : He.DefD := ⟨("_law_round", none), "_law_round", "_law_round", defArgs s_law_round, defBody s_law_round, defScope s_law_round, [], []⟩
def d_law_full : He.DefD := ⟨("_law_full", none), "_law_full", "_law_full", defArgs s_law_full, defBody s_law_full, defScope s_law_full, [], []⟩
def d_law_tree : He.DefD := ⟨("_law_tree", none), "_law_tree", "_law_tree", defArgs s_law_tree, defBody s_law_tree, defScope s_law_tree, [], []⟩
def d_law_web : He.DefD := ⟨("_law_web", none), "_law_web", "_law_web", defArgs s_law_web, defBody s_law_web, defScope s_law_web, [], []⟩
def d_law_heads : He.DefD := ⟨("_law_heads", none), "_law_heads", "_law_heads", defArgs s_law_heads, defBody s_law_heads, defScope s_law_heads, [], []⟩
def d_law_is_forest : He.DefD := ⟨("_law_is_forest", none), "_law_is_forest", "_law_is_forest", defArgs s_law_is_forest, defBody s_law_is_forest, defScope s_law_is_forest, [], []⟩
def d_law_is_int : He.DefD := ⟨("_law_is_int", none), "_law_is_int", "_law_is_int", defArgs s_law_is_int, defBody s_law_is_int, defScope s_law_is_int, [], []⟩
def d_law_is_true : He.DefD := ⟨("_law_is_true", none), "_law_is_true", "_law_is_true", defArgs s_law_is_true, defBody s_law_is_true, defScope s_law_is_true, [], []⟩
def d_law_lot : He.DefD := ⟨("_law_lot", none), "_law_lot", "_law_lot", defArgs s_law_lot, defBody s_law_lot, defScope s_law_lot, [], []⟩
def d_law_odd_things : He.DefD := ⟨("_law_odd_things", none), "_law_odd_things", "_law_odd_things", defArgs s_law_odd_things, defBody s_law_odd_things, defScope s_law_odd_things, [], []⟩
def d_law_lots : He.DefD := ⟨("_law_lots", none), "_law_lots", "_law_lots", defArgs s_law_lots, defBody s_law_lots, defScope s_law_lots, [], []⟩
def d_law_can : He.DefD := ⟨("_law_can", none), "_law_can", "_law_can", defArgs s_law_can, defBody s_law_can, defScope s_law_can, [], []⟩
def d_law_order : He.DefD := ⟨("_law_order", none), "_law_order", "_law_order", defArgs s_law_order, defBody s_law_order, defScope s_law_order, [], []⟩
def d_law_cheapest : He.DefD := ⟨("_law_cheapest", none), "_law_cheapest", "_law_cheapest", defArgs s_law_cheapest, defBody s_law_cheapest, defScope s_law_cheapest, [], []⟩
def d_law_spread : He.DefD := ⟨("_law_spread", none), "_law_spread", "_law_spread", defArgs s_law_spread, defBody s_law_spread, defScope s_law_spread, [], []⟩
def d_law_prices : He.DefD := ⟨("_law_prices", none), "_law_prices", "_law_prices", defArgs s_law_prices, defBody s_law_prices, defScope s_law_prices, [], []⟩
def d_law_priced : He.DefD := ⟨("_law_priced", none), "_law_priced", "_law_priced", defArgs s_law_priced, defBody s_law_priced, defScope s_law_priced, [], []⟩
def d_law_cheaper_within : He.DefD := ⟨("_law_cheaper_within", none), "_law_cheaper_within", "_law_cheaper_within", defArgs s_law_cheaper_within, defBody s_law_cheaper_within, defScope s_law_cheaper_within, [], []⟩
def d_law_is_lot : He.DefD := ⟨("_law_is_lot", none), "_law_is_lot", "_law_is_lot", defArgs s_law_is_lot, defBody s_law_is_lot, defScope s_law_is_lot, [], []⟩
def d_law_is_reason : He.DefD := ⟨("_law_is_reason", none), "_law_is_reason", "_law_is_reason", defArgs s_law_is_reason, defBody s_law_is_reason, defScope s_law_is_reason, [], []⟩
def d_law_is_laying : He.DefD := ⟨("_law_is_laying", none), "_law_is_laying", "_law_is_laying", defArgs s_law_is_laying, defBody s_law_is_laying, defScope s_law_is_laying, [], []⟩
def d_law_is_cheapest : He.DefD := ⟨("_law_is_cheapest", none), "_law_is_cheapest", "_law_is_cheapest", defArgs s_law_is_cheapest, defBody s_law_is_cheapest, defScope s_law_is_cheapest, [], []⟩
def d_law_paper : He.DefD := ⟨("_law_paper", none), "_law_paper", "_law_paper", defArgs s_law_paper, defBody s_law_paper, defScope s_law_paper, [], []⟩
def d_law_with : He.DefD := ⟨("_law_with", none), "_law_with", "_law_with", defArgs s_law_with, defBody s_law_with, defScope s_law_with, [], []⟩
def d_law_laying_bent : He.DefD := ⟨("_law_laying_bent", none), "_law_laying_bent", "_law_laying_bent", defArgs s_law_laying_bent, defBody s_law_laying_bent, defScope s_law_laying_bent, [], []⟩
def d_law_reasons_bent : He.DefD := ⟨("_law_reasons_bent", none), "_law_reasons_bent", "_law_reasons_bent", defArgs s_law_reasons_bent, defBody s_law_reasons_bent, defScope s_law_reasons_bent, [], []⟩
def d_law_bent : He.DefD := ⟨("_law_bent", none), "_law_bent", "_law_bent", defArgs s_law_bent, defBody s_law_bent, defScope s_law_bent, [], []⟩
def d_law : He.DefD := ⟨("law", none), "law", "law", defArgs s_law, defBody s_law, defScope s_law, [], []⟩
def fn : List He.DefD := [d_is_number, d_is_rising, d_leader_of, d_join_points, d_ringless, d_right_laying, d_ties_by_forest, d_is_lot, d_right_cheapest, d_is_reason, d_is_cheaper, d_cheapness, d_is_tight_by, d_law_mixed, d_law_deck, d_law_next, d_law_tie, d_law_any_web, d_law_round, d_law_full, d_law_tree, d_law_web, d_law_heads, d_law_is_forest, d_law_is_int, d_law_is_true, d_law_lot, d_law_odd_things, d_law_lots, d_law_can, d_law_order, d_law_cheapest, d_law_spread, d_law_prices, d_law_priced, d_law_cheaper_within, d_law_is_lot, d_law_is_reason, d_law_is_laying, d_law_is_cheapest, d_law_paper, d_law_with, d_law_laying_bent, d_law_reasons_bent, d_law_bent, d_law]
def fa : List He.Fa := [.glo "is_number", .glo "is_rising", .glo "leader_of", .glo "join_points", .glo "ringless", .glo "right_laying", .glo "ties_by_forest", .glo "is_lot", .glo "right_cheapest", .glo "is_reason", .glo "is_cheaper", .glo "cheapness", .glo "is_tight_by", .glo "_law_mixed", .glo "_law_deck", .glo "_law_next", .glo "_law_tie", .glo "_law_any_web", .glo "_law_round", .glo "_law_full", .glo "_law_tree", .glo "_law_web", .glo "_law_heads", .glo "_law_is_forest", .glo "_law_is_int", .glo "_law_is_true", .glo "_law_lot", .glo "_law_odd_things", .glo "_law_lots", .glo "_law_can", .glo "_law_order", .glo "_law_cheapest", .glo "_law_spread", .glo "_law_prices", .glo "_law_priced", .glo "_law_cheaper_within", .glo "_law_is_lot", .glo "_law_is_reason", .glo "_law_is_laying", .glo "_law_is_cheapest", .glo "_law_paper", .glo "_law_with", .glo "_law_laying_bent", .glo "_law_reasons_bent", .glo "_law_bent", .glo "law", .free "all", .free "bool", .free "dict", .free "enumerate", .free "int", .free "isinstance", .free "len", .free "list", .free "max", .free "min", .free "range", .free "reversed", .free "set", .free "sorted", .free "str", .free "tuple", .free "zip"]
def tf : List He.Defn := [("right_laying", none), ("right_cheapest", none), ("_law_order", none)]
abbrev R : PySem.W.OpenRow := PySem.W.OpenLaw.row PySem.Challenge.rw_fewforests_k42_cheapest_bent
abbrev hk : PySem.W.Hook := He.hookX 4 fa fn [] tf exK
def ob (s : PySem.W.SharedT) : He.AlX := He.obsX 4 fa fn [] tf exK (HandSHeadRun.getT s)
theorem ob_eq (s : PySem.W.SharedT) : ob s = hk.obs s.abs := He.obsX_eq (HandSHeadRun.getT_eq s)
def loose : List PySem.Str := "is_number" :: "is_rising" :: "leader_of" :: "join_points" :: "ringless" :: "right_laying" :: "ties_by_forest" :: "is_lot" :: "right_cheapest" :: "is_reason" :: "is_cheaper" :: "cheapness" :: "is_tight_by" :: "_law_mixed" :: "_law_deck" :: "_law_next" :: "_law_tie" :: "_law_any_web" :: "_law_round" :: "_law_full" :: "_law_tree" :: "_law_web" :: "_law_heads" :: "_law_is_forest" :: "_law_is_int" :: "_law_is_true" :: "_law_lot" :: "_law_odd_things" :: "_law_lots" :: "_law_can" :: "_law_order" :: "_law_cheapest" :: "_law_spread" :: "_law_prices" :: "_law_priced" :: "_law_cheaper_within" :: "_law_is_lot" :: "_law_is_reason" :: "_law_is_laying" :: "_law_is_cheapest" :: "_law_paper" :: "_law_with" :: "_law_laying_bent" :: "_law_reasons_bent" :: "_law_bent" :: []
theorem run (w : World) : HandSHeadRun.RunEq R (PySem.W.view R.prog [51]) hk ob 3000 loose w := by
  intro os
  kernel_rfl
theorem lawAt {w : World} {K : PySem.W.Frag} {h : Heap} {mg : Str → Option Value} {f : Addr} (X : K.In h) (G : h.Ns mainGlobals mg) (hfa : mg ("law" : Str) = some (.ref f)) (c : He.SaysX fa fn [] tf exK w h K) :
    LawAtG PySem.Challenge.rw_fewforests_k42_cheapest_bent w K 9 63 "_law_script" mg f h := by
  have cd : He.SaysD fa fn K := c.t.d
  have cmore : ((tgl.all fun d => tll.all fun e => decide ((He.cT K d).2 ≠ (He.cT K e.1).2)) && (tll.all fun d => tll.all fun e => decide ((He.cT K d.1).2 = (He.cT K e.1).2 → d.2 = e.2))) = true := c.more
  simp only [Bool.and_eq_true] at cmore
  letI LI : LT := ⟨fun b => decide (b ∈ tll.map fun z => (He.cT K z.1).2)⟩
  have ngl : ∀ d ∈ tgl, LT.lam (He.cT K d).2 = false := fun d hd => decide_eq_false fun z => by
    obtain ⟨e, he, ee⟩ := List.mem_map.mp z
    exact of_decide_eq_true (List.all_eq_true.mp (List.all_eq_true.mp cmore.1 d hd) e he) ee.symm
  have LO : LtOk (tll.map fun z => ((He.cT K z.1).2, z.2)) := ⟨fun p hp => by
    obtain ⟨z, hz, rfl⟩ := List.mem_map.mp hp
    exact decide_eq_true (List.mem_map.mpr ⟨z, hz, rfl⟩), fun p hp q hq e => by
    obtain ⟨z, hz, rfl⟩ := List.mem_map.mp hp
    obtain ⟨y, hy, rfl⟩ := List.mem_map.mp hq
    exact of_decide_eq_true (List.all_eq_true.mp (List.all_eq_true.mp cmore.2 z hz) y hy) e⟩
  obtain ⟨fd_is_number, F_is_number⟩ := cd.def_ 0 (d := d_is_number) rfl
  have g_is_number := He.glo_ok X G (cd.fact 0 (f := .glo "is_number") rfl)
  have D_is_number : DefAt K mg "is_number" s_is_number ["thing", "least", "most"] _ fd_is_number := ⟨F_is_number, g_is_number, FunD.bindsN F_is_number fun _ _ _ _ _ _ us hl => match us, hl with | [_, _, _], _ => rfl⟩
  obtain ⟨fd_is_rising, F_is_rising⟩ := cd.def_ 1 (d := d_is_rising) rfl
  have g_is_rising := He.glo_ok X G (cd.fact 1 (f := .glo "is_rising") rfl)
  have D_is_rising : DefAt K mg "is_rising" s_is_rising ["thing", "most"] _ fd_is_rising := ⟨F_is_rising, g_is_rising, FunD.bindsN F_is_rising fun _ _ _ _ _ _ us hl => match us, hl with | [_, _], _ => rfl⟩
  obtain ⟨fd_leader_of, F_leader_of⟩ := cd.def_ 2 (d := d_leader_of) rfl
  have g_leader_of := He.glo_ok X G (cd.fact 2 (f := .glo "leader_of") rfl)
  have D_leader_of : DefAt K mg "leader_of" s_leader_of ["leaders", "point"] _ fd_leader_of := ⟨F_leader_of, g_leader_of, FunD.bindsN F_leader_of fun _ _ _ _ _ _ us hl => match us, hl with | [_, _], _ => rfl⟩
  obtain ⟨fd_join_points, F_join_points⟩ := cd.def_ 3 (d := d_join_points) rfl
  have g_join_points := He.glo_ok X G (cd.fact 3 (f := .glo "join_points") rfl)
  have D_join_points : DefAt K mg "join_points" s_join_points ["leaders", "a", "b"] _ fd_join_points := ⟨F_join_points, g_join_points, FunD.bindsN F_join_points fun _ _ _ _ _ _ us hl => match us, hl with | [_, _, _], _ => rfl⟩
  obtain ⟨fd_ringless, F_ringless⟩ := cd.def_ 4 (d := d_ringless) rfl
  have g_ringless := He.glo_ok X G (cd.fact 4 (f := .glo "ringless") rfl)
  have D_ringless : DefAt K mg "ringless" s_ringless ["web", "ties"] _ fd_ringless := ⟨F_ringless, g_ringless, FunD.bindsN F_ringless fun _ _ _ _ _ _ us hl => match us, hl with | [_, _], _ => rfl⟩
  obtain ⟨fd_right_laying, F_right_laying⟩ := cd.def_ 5 (d := d_right_laying) rfl
  have g_right_laying := He.glo_ok X G (cd.fact 5 (f := .glo "right_laying") rfl)
  have D_right_laying : DefAt K mg "right_laying" s_right_laying ["web", "k", "thing"] _ fd_right_laying := ⟨F_right_laying, g_right_laying, FunD.bindsN F_right_laying fun _ _ _ _ _ _ us hl => match us, hl with | [_, _, _], _ => rfl⟩
  obtain ⟨fd_ties_by_forest, F_ties_by_forest⟩ := cd.def_ 6 (d := d_ties_by_forest) rfl
  have g_ties_by_forest := He.glo_ok X G (cd.fact 6 (f := .glo "ties_by_forest") rfl)
  have D_ties_by_forest : DefAt K mg "ties_by_forest" s_ties_by_forest ["laying"] _ fd_ties_by_forest := ⟨F_ties_by_forest, g_ties_by_forest, FunD.bindsN F_ties_by_forest fun _ _ _ _ _ _ us hl => match us, hl with | [_], _ => rfl⟩
  obtain ⟨fd_is_lot, F_is_lot⟩ := cd.def_ 7 (d := d_is_lot) rfl
  have g_is_lot := He.glo_ok X G (cd.fact 7 (f := .glo "is_lot") rfl)
  have D_is_lot : DefAt K mg "is_lot" s_is_lot ["web", "thing"] _ fd_is_lot := ⟨F_is_lot, g_is_lot, FunD.bindsN F_is_lot fun _ _ _ _ _ _ us hl => match us, hl with | [_, _], _ => rfl⟩
  obtain ⟨fd_right_cheapest, F_right_cheapest⟩ := cd.def_ 8 (d := d_right_cheapest) rfl
  have g_right_cheapest := He.glo_ok X G (cd.fact 8 (f := .glo "right_cheapest") rfl)
  have D_right_cheapest : DefAt K mg "right_cheapest" s_right_cheapest ["web", "k", "prices", "thing"] _ fd_right_cheapest := ⟨F_right_cheapest, g_right_cheapest, FunD.bindsN F_right_cheapest fun _ _ _ _ _ _ us hl => match us, hl with | [_, _, _, _], _ => rfl⟩
  obtain ⟨fd_is_reason, F_is_reason⟩ := cd.def_ 9 (d := d_is_reason) rfl
  have g_is_reason := He.glo_ok X G (cd.fact 9 (f := .glo "is_reason") rfl)
  have D_is_reason : DefAt K mg "is_reason" s_is_reason ["web", "k", "prices", "laying", "tie", "thing"] _ fd_is_reason := ⟨F_is_reason, g_is_reason, FunD.bindsN F_is_reason fun _ _ _ _ _ _ us hl => match us, hl with | [_, _, _, _, _, _], _ => rfl⟩
  obtain ⟨fd_is_cheaper, F_is_cheaper⟩ := cd.def_ 10 (d := d_is_cheaper) rfl
  have g_is_cheaper := He.glo_ok X G (cd.fact 10 (f := .glo "is_cheaper") rfl)
  have D_is_cheaper : DefAt K mg "is_cheaper" s_is_cheaper ["prices", "one", "other"] _ fd_is_cheaper := ⟨F_is_cheaper, g_is_cheaper, FunD.bindsN F_is_cheaper fun _ _ _ _ _ _ us hl => match us, hl with | [_, _, _], _ => rfl⟩
  obtain ⟨fd_cheapness, F_cheapness⟩ := cd.def_ 11 (d := d_cheapness) rfl
  have g_cheapness := He.glo_ok X G (cd.fact 11 (f := .glo "cheapness") rfl)
  have D_cheapness : DefAt K mg "cheapness" s_cheapness ["prices", "tie"] _ fd_cheapness := ⟨F_cheapness, g_cheapness, FunD.bindsN F_cheapness fun _ _ _ _ _ _ us hl => match us, hl with | [_, _], _ => rfl⟩
  obtain ⟨fd_is_tight_by, F_is_tight_by⟩ := cd.def_ 12 (d := d_is_tight_by) rfl
  have g_is_tight_by := He.glo_ok X G (cd.fact 12 (f := .glo "is_tight_by") rfl)
  have D_is_tight_by : DefAt K mg "is_tight_by" s_is_tight_by ["web", "k", "laying", "lot", "numbers"] _ fd_is_tight_by := ⟨F_is_tight_by, g_is_tight_by, FunD.bindsN F_is_tight_by fun _ _ _ _ _ _ us hl => match us, hl with | [_, _, _, _, _], _ => rfl⟩
  obtain ⟨fd__law_mixed, F__law_mixed⟩ := cd.def_ 13 (d := d_law_mixed) rfl
  have g__law_mixed := He.glo_ok X G (cd.fact 13 (f := .glo "_law_mixed") rfl)
  have D__law_mixed : DefAt K mg "_law_mixed" s_law_mixed ["_law_cell", "_law_k"] _ fd__law_mixed := ⟨F__law_mixed, g__law_mixed, FunD.bindsN F__law_mixed fun _ _ _ _ _ _ us hl => match us, hl with | [_, _], _ => rfl⟩
  obtain ⟨fd__law_deck, F__law_deck⟩ := cd.def_ 14 (d := d_law_deck) rfl
  have g__law_deck := He.glo_ok X G (cd.fact 14 (f := .glo "_law_deck") rfl)
  have D__law_deck : DefAt K mg "_law_deck" s_law_deck ["_law_script", "_law_many"] _ fd__law_deck := ⟨F__law_deck, g__law_deck, FunD.bindsN F__law_deck fun _ _ _ _ _ _ us hl => match us, hl with | [_, _], _ => rfl⟩
  obtain ⟨fd__law_next, F__law_next⟩ := cd.def_ 15 (d := d_law_next) rfl
  have g__law_next := He.glo_ok X G (cd.fact 15 (f := .glo "_law_next") rfl)
  have D__law_next : DefAt K mg "_law_next" s_law_next ["_law_deck_here"] _ fd__law_next := ⟨F__law_next, g__law_next, FunD.bindsN F__law_next fun _ _ _ _ _ _ us hl => match us, hl with | [_], _ => rfl⟩
  obtain ⟨fd__law_tie, F__law_tie⟩ := cd.def_ 16 (d := d_law_tie) rfl
  have g__law_tie := He.glo_ok X G (cd.fact 16 (f := .glo "_law_tie") rfl)
  have D__law_tie : DefAt K mg "_law_tie" s_law_tie ["_law_deck_here", "_law_points"] _ fd__law_tie := ⟨F__law_tie, g__law_tie, FunD.bindsN F__law_tie fun _ _ _ _ _ _ us hl => match us, hl with | [_, _], _ => rfl⟩
  obtain ⟨fd__law_any_web, F__law_any_web⟩ := cd.def_ 17 (d := d_law_any_web) rfl
  have g__law_any_web := He.glo_ok X G (cd.fact 17 (f := .glo "_law_any_web") rfl)
  have D__law_any_web : DefAt K mg "_law_any_web" s_law_any_web ["_law_deck_here", "_law_points", "_law_most"] _ fd__law_any_web := ⟨F__law_any_web, g__law_any_web, FunD.bindsN F__law_any_web fun _ _ _ _ _ _ us hl => match us, hl with | [_, _, _], _ => rfl⟩
  obtain ⟨fd__law_round, F__law_round⟩ := cd.def_ 18 (d := d_law_round) rfl
  have g__law_round := He.glo_ok X G (cd.fact 18 (f := .glo "_law_round") rfl)
  have D__law_round : DefAt K mg "_law_round" s_law_round ["_law_points"] _ fd__law_round := ⟨F__law_round, g__law_round, FunD.bindsN F__law_round fun _ _ _ _ _ _ us hl => match us, hl with | [_], _ => rfl⟩
  obtain ⟨fd__law_full, F__law_full⟩ := cd.def_ 19 (d := d_law_full) rfl
  have g__law_full := He.glo_ok X G (cd.fact 19 (f := .glo "_law_full") rfl)
  have D__law_full : DefAt K mg "_law_full" s_law_full ["_law_points"] _ fd__law_full := ⟨F__law_full, g__law_full, FunD.bindsN F__law_full fun _ _ _ _ _ _ us hl => match us, hl with | [_], _ => rfl⟩
  obtain ⟨fd__law_tree, F__law_tree⟩ := cd.def_ 20 (d := d_law_tree) rfl
  have g__law_tree := He.glo_ok X G (cd.fact 20 (f := .glo "_law_tree") rfl)
  have D__law_tree : DefAt K mg "_law_tree" s_law_tree ["_law_deck_here", "_law_points"] _ fd__law_tree := ⟨F__law_tree, g__law_tree, FunD.bindsN F__law_tree fun _ _ _ _ _ _ us hl => match us, hl with | [_, _], _ => rfl⟩
  obtain ⟨fd__law_web, F__law_web⟩ := cd.def_ 21 (d := d_law_web) rfl
  have g__law_web := He.glo_ok X G (cd.fact 21 (f := .glo "_law_web") rfl)
  have D__law_web : DefAt K mg "_law_web" s_law_web ["_law_deck_here", "_law_points", "_law_most"] _ fd__law_web := ⟨F__law_web, g__law_web, FunD.bindsN F__law_web fun _ _ _ _ _ _ us hl => match us, hl with | [_, _, _], _ => rfl⟩
  obtain ⟨fd__law_heads, F__law_heads⟩ := cd.def_ 22 (d := d_law_heads) rfl
  have g__law_heads := He.glo_ok X G (cd.fact 22 (f := .glo "_law_heads") rfl)
  have D__law_heads : DefAt K mg "_law_heads" s_law_heads ["_law_points", "_law_ties"] _ fd__law_heads := ⟨F__law_heads, g__law_heads, FunD.bindsN F__law_heads fun _ _ _ _ _ _ us hl => match us, hl with | [_, _], _ => rfl⟩
  obtain ⟨fd__law_is_forest, F__law_is_forest⟩ := cd.def_ 23 (d := d_law_is_forest) rfl
  have g__law_is_forest := He.glo_ok X G (cd.fact 23 (f := .glo "_law_is_forest") rfl)
  have D__law_is_forest : DefAt K mg "_law_is_forest" s_law_is_forest ["_law_points", "_law_ties"] _ fd__law_is_forest := ⟨F__law_is_forest, g__law_is_forest, FunD.bindsN F__law_is_forest fun _ _ _ _ _ _ us hl => match us, hl with | [_, _], _ => rfl⟩
  obtain ⟨fd__law_is_int, F__law_is_int⟩ := cd.def_ 24 (d := d_law_is_int) rfl
  have g__law_is_int := He.glo_ok X G (cd.fact 24 (f := .glo "_law_is_int") rfl)
  have D__law_is_int : DefAt K mg "_law_is_int" s_law_is_int ["_law_thing", "_law_least", "_law_most"] _ fd__law_is_int := ⟨F__law_is_int, g__law_is_int, FunD.bindsN F__law_is_int fun _ _ _ _ _ _ us hl => match us, hl with | [_, _, _], _ => rfl⟩
  obtain ⟨fd__law_is_true, F__law_is_true⟩ := cd.def_ 25 (d := d_law_is_true) rfl
  have g__law_is_true := He.glo_ok X G (cd.fact 25 (f := .glo "_law_is_true") rfl)
  have D__law_is_true : DefAt K mg "_law_is_true" s_law_is_true ["_law_found", "_law_due"] _ fd__law_is_true := ⟨F__law_is_true, g__law_is_true, FunD.bindsN F__law_is_true fun _ _ _ _ _ _ us hl => match us, hl with | [_, _], _ => rfl⟩
  obtain ⟨fd__law_lot, F__law_lot⟩ := cd.def_ 26 (d := d_law_lot) rfl
  have g__law_lot := He.glo_ok X G (cd.fact 26 (f := .glo "_law_lot") rfl)
  have D__law_lot : DefAt K mg "_law_lot" s_law_lot ["_law_deck_here", "_law_points"] _ fd__law_lot := ⟨F__law_lot, g__law_lot, FunD.bindsN F__law_lot fun _ _ _ _ _ _ us hl => match us, hl with | [_, _], _ => rfl⟩
  obtain ⟨fd__law_odd_things, F__law_odd_things⟩ := cd.def_ 27 (d := d_law_odd_things) rfl
  have g__law_odd_things := He.glo_ok X G (cd.fact 27 (f := .glo "_law_odd_things") rfl)
  have D__law_odd_things : DefAt K mg "_law_odd_things" s_law_odd_things [] _ fd__law_odd_things := ⟨F__law_odd_things, g__law_odd_things, FunD.bindsN F__law_odd_things fun _ _ _ _ _ _ us hl => match us, hl with | [], _ => rfl⟩
  obtain ⟨fd__law_lots, F__law_lots⟩ := cd.def_ 28 (d := d_law_lots) rfl
  have g__law_lots := He.glo_ok X G (cd.fact 28 (f := .glo "_law_lots") rfl)
  have D__law_lots : DefAt K mg "_law_lots" s_law_lots ["_law_points"] _ fd__law_lots := ⟨F__law_lots, g__law_lots, FunD.bindsN F__law_lots fun _ _ _ _ _ _ us hl => match us, hl with | [_], _ => rfl⟩
  obtain ⟨fd__law_can, F__law_can⟩ := cd.def_ 29 (d := d_law_can) rfl
  have g__law_can := He.glo_ok X G (cd.fact 29 (f := .glo "_law_can") rfl)
  have D__law_can : DefAt K mg "_law_can" s_law_can ["_law_points", "_law_ties", "_law_k"] _ fd__law_can := ⟨F__law_can, g__law_can, FunD.bindsN F__law_can fun _ _ _ _ _ _ us hl => match us, hl with | [_, _, _], _ => rfl⟩
  obtain ⟨fd__law_order, F__law_order⟩ := cd.def_ 30 (d := d_law_order) rfl
  have g__law_order := He.glo_ok X G (cd.fact 30 (f := .glo "_law_order") rfl)
  have D__law_order : DefAt K mg "_law_order" s_law_order ["_law_prices_here"] _ fd__law_order := ⟨F__law_order, g__law_order, FunD.bindsN F__law_order fun _ _ _ _ _ _ us hl => match us, hl with | [_], _ => rfl⟩
  obtain ⟨fd__law_cheapest, F__law_cheapest⟩ := cd.def_ 31 (d := d_law_cheapest) rfl
  have g__law_cheapest := He.glo_ok X G (cd.fact 31 (f := .glo "_law_cheapest") rfl)
  have D__law_cheapest : DefAt K mg "_law_cheapest" s_law_cheapest ["_law_web_here", "_law_k", "_law_prices_here"] _ fd__law_cheapest := ⟨F__law_cheapest, g__law_cheapest, FunD.bindsN F__law_cheapest fun _ _ _ _ _ _ us hl => match us, hl with | [_, _, _], _ => rfl⟩
  obtain ⟨fd__law_spread, F__law_spread⟩ := cd.def_ 32 (d := d_law_spread) rfl
  have g__law_spread := He.glo_ok X G (cd.fact 32 (f := .glo "_law_spread") rfl)
  have D__law_spread : DefAt K mg "_law_spread" s_law_spread ["_law_points", "_law_ties", "_law_k"] _ fd__law_spread := ⟨F__law_spread, g__law_spread, FunD.bindsN F__law_spread fun _ _ _ _ _ _ us hl => match us, hl with | [_, _, _], _ => rfl⟩
  obtain ⟨fd__law_prices, F__law_prices⟩ := cd.def_ 33 (d := d_law_prices) rfl
  have g__law_prices := He.glo_ok X G (cd.fact 33 (f := .glo "_law_prices") rfl)
  have D__law_prices : DefAt K mg "_law_prices" s_law_prices ["_law_deck_here", "_law_many"] _ fd__law_prices := ⟨F__law_prices, g__law_prices, FunD.bindsN F__law_prices fun _ _ _ _ _ _ us hl => match us, hl with | [_, _], _ => rfl⟩
  obtain ⟨fd__law_priced, F__law_priced⟩ := cd.def_ 34 (d := d_law_priced) rfl
  have g__law_priced := He.glo_ok X G (cd.fact 34 (f := .glo "_law_priced") rfl)
  have D__law_priced : DefAt K mg "_law_priced" s_law_priced ["_law_deck_here"] _ fd__law_priced := ⟨F__law_priced, g__law_priced, FunD.bindsN F__law_priced fun _ _ _ _ _ _ us hl => match us, hl with | [_], _ => rfl⟩
  obtain ⟨fd__law_cheaper_within, F__law_cheaper_within⟩ := cd.def_ 35 (d := d_law_cheaper_within) rfl
  have g__law_cheaper_within := He.glo_ok X G (cd.fact 35 (f := .glo "_law_cheaper_within") rfl)
  have D__law_cheaper_within : DefAt K mg "_law_cheaper_within" s_law_cheaper_within ["_law_web_here", "_law_prices_here", "_law_laying", "_law_lot_here", "_law_tie_here", "_law_forest"] _ fd__law_cheaper_within := ⟨F__law_cheaper_within, g__law_cheaper_within, FunD.bindsN F__law_cheaper_within fun _ _ _ _ _ _ us hl => match us, hl with | [_, _, _, _, _, _], _ => rfl⟩
  obtain ⟨fd__law_is_lot, F__law_is_lot⟩ := cd.def_ 36 (d := d_law_is_lot) rfl
  have g__law_is_lot := He.glo_ok X G (cd.fact 36 (f := .glo "_law_is_lot") rfl)
  have D__law_is_lot : DefAt K mg "_law_is_lot" s_law_is_lot ["_law_web_here", "_law_thing"] _ fd__law_is_lot := ⟨F__law_is_lot, g__law_is_lot, FunD.bindsN F__law_is_lot fun _ _ _ _ _ _ us hl => match us, hl with | [_, _], _ => rfl⟩
  obtain ⟨fd__law_is_reason, F__law_is_reason⟩ := cd.def_ 37 (d := d_law_is_reason) rfl
  have g__law_is_reason := He.glo_ok X G (cd.fact 37 (f := .glo "_law_is_reason") rfl)
  have D__law_is_reason : DefAt K mg "_law_is_reason" s_law_is_reason ["_law_web_here", "_law_k", "_law_prices_here", "_law_laying", "_law_tie_here", "_law_thing"] _ fd__law_is_reason := ⟨F__law_is_reason, g__law_is_reason, FunD.bindsN F__law_is_reason fun _ _ _ _ _ _ us hl => match us, hl with | [_, _, _, _, _, _], _ => rfl⟩
  obtain ⟨fd__law_is_laying, F__law_is_laying⟩ := cd.def_ 38 (d := d_law_is_laying) rfl
  have g__law_is_laying := He.glo_ok X G (cd.fact 38 (f := .glo "_law_is_laying") rfl)
  have D__law_is_laying : DefAt K mg "_law_is_laying" s_law_is_laying ["_law_web_here", "_law_k", "_law_thing"] _ fd__law_is_laying := ⟨F__law_is_laying, g__law_is_laying, FunD.bindsN F__law_is_laying fun _ _ _ _ _ _ us hl => match us, hl with | [_, _, _], _ => rfl⟩
  obtain ⟨fd__law_is_cheapest, F__law_is_cheapest⟩ := cd.def_ 39 (d := d_law_is_cheapest) rfl
  have g__law_is_cheapest := He.glo_ok X G (cd.fact 39 (f := .glo "_law_is_cheapest") rfl)
  have D__law_is_cheapest : DefAt K mg "_law_is_cheapest" s_law_is_cheapest ["_law_web_here", "_law_k", "_law_prices_here", "_law_thing"] _ fd__law_is_cheapest := ⟨F__law_is_cheapest, g__law_is_cheapest, FunD.bindsN F__law_is_cheapest fun _ _ _ _ _ _ us hl => match us, hl with | [_, _, _, _], _ => rfl⟩
  obtain ⟨fd__law_paper, F__law_paper⟩ := cd.def_ 40 (d := d_law_paper) rfl
  have g__law_paper := He.glo_ok X G (cd.fact 40 (f := .glo "_law_paper") rfl)
  have D__law_paper : DefAt K mg "_law_paper" s_law_paper ["_law_deck_here", "_law_web_here", "_law_k", "_law_prices_here"] _ fd__law_paper := ⟨F__law_paper, g__law_paper, FunD.bindsN F__law_paper fun _ _ _ _ _ _ us hl => match us, hl with | [_, _, _, _], _ => rfl⟩
  obtain ⟨fd__law_with, F__law_with⟩ := cd.def_ 41 (d := d_law_with) rfl
  have g__law_with := He.glo_ok X G (cd.fact 41 (f := .glo "_law_with") rfl)
  have D__law_with : DefAt K mg "_law_with" s_law_with ["_law_row", "_law_at", "_law_thing"] _ fd__law_with := ⟨F__law_with, g__law_with, FunD.bindsN F__law_with fun _ _ _ _ _ _ us hl => match us, hl with | [_, _, _], _ => rfl⟩
  obtain ⟨fd__law_laying_bent, F__law_laying_bent⟩ := cd.def_ 42 (d := d_law_laying_bent) rfl
  have g__law_laying_bent := He.glo_ok X G (cd.fact 42 (f := .glo "_law_laying_bent") rfl)
  have D__law_laying_bent : DefAt K mg "_law_laying_bent" s_law_laying_bent ["_law_deck_here", "_law_k", "_law_laying"] _ fd__law_laying_bent := ⟨F__law_laying_bent, g__law_laying_bent, FunD.bindsN F__law_laying_bent fun _ _ _ _ _ _ us hl => match us, hl with | [_, _, _], _ => rfl⟩
  obtain ⟨fd__law_reasons_bent, F__law_reasons_bent⟩ := cd.def_ 43 (d := d_law_reasons_bent) rfl
  have g__law_reasons_bent := He.glo_ok X G (cd.fact 43 (f := .glo "_law_reasons_bent") rfl)
  have D__law_reasons_bent : DefAt K mg "_law_reasons_bent" s_law_reasons_bent ["_law_deck_here", "_law_web_here", "_law_reasons"] _ fd__law_reasons_bent := ⟨F__law_reasons_bent, g__law_reasons_bent, FunD.bindsN F__law_reasons_bent fun _ _ _ _ _ _ us hl => match us, hl with | [_, _, _], _ => rfl⟩
  obtain ⟨fd__law_bent, F__law_bent⟩ := cd.def_ 44 (d := d_law_bent) rfl
  have g__law_bent := He.glo_ok X G (cd.fact 44 (f := .glo "_law_bent") rfl)
  have D__law_bent : DefAt K mg "_law_bent" s_law_bent ["_law_deck_here", "_law_web_here", "_law_k", "_law_paper_here"] _ fd__law_bent := ⟨F__law_bent, g__law_bent, FunD.bindsN F__law_bent fun _ _ _ _ _ _ us hl => match us, hl with | [_, _, _, _], _ => rfl⟩
  obtain ⟨fd_law, F_law⟩ := cd.def_ 45 (d := d_law) rfl
  have g_law := He.glo_ok X G (cd.fact 45 (f := .glo "law") rfl)
  have D_law : DefAt K mg "law" s_law ["_law_script"] _ fd_law := ⟨F_law, g_law, FunD.bindsN F_law fun _ _ _ _ _ _ us hl => match us, hl with | [_], _ => rfl⟩
  have T : Blt mg := ⟨He.free_ok X G (cd.fact 46 (f := .free "all") rfl), He.free_ok X G (cd.fact 47 (f := .free "bool") rfl), He.free_ok X G (cd.fact 48 (f := .free "dict") rfl), He.free_ok X G (cd.fact 49 (f := .free "enumerate") rfl), He.free_ok X G (cd.fact 50 (f := .free "int") rfl), He.free_ok X G (cd.fact 51 (f := .free "isinstance") rfl), He.free_ok X G (cd.fact 52 (f := .free "len") rfl), He.free_ok X G (cd.fact 53 (f := .free "list") rfl), He.free_ok X G (cd.fact 54 (f := .free "max") rfl), He.free_ok X G (cd.fact 55 (f := .free "min") rfl), He.free_ok X G (cd.fact 56 (f := .free "range") rfl), He.free_ok X G (cd.fact 57 (f := .free "reversed") rfl), He.free_ok X G (cd.fact 58 (f := .free "set") rfl), He.free_ok X G (cd.fact 59 (f := .free "sorted") rfl), He.free_ok X G (cd.fact 60 (f := .free "str") rfl), He.free_ok X G (cd.fact 61 (f := .free "tuple") rfl), He.free_ok X G (cd.fact 62 (f := .free "zip") rfl)⟩
  cases hfa.symm.trans g_law
  obtain ⟨cc_right_laying, hcd_right_laying⟩ := code_at F_right_laying
  obtain ⟨cc_right_cheapest, hcd_right_cheapest⟩ := code_at F_right_cheapest
  obtain ⟨cc__law_order, hcd__law_order⟩ := code_at F__law_order
  have bl := FunD.bindsA (ps := ["_law_script"]) F_law fun _ _ _ _ _ _ us hl => match us, hl with | [_], _ => rfl
  refine ⟨fd_law, tf.map (He.cT K), sp_law K (tgl.map fun p => (He.cT K p).2) (tll.map fun z => ((He.cT K z.1).2, z.2)), fun p hp => ?_, fun p hp => ?_, fun p hp => ?_, fun s v => bl s [v] rfl, fun H a ns hl hbits hH hS => ?_, fun base KB GB hTB => ?_⟩
  · obtain ⟨d, hd, rfl⟩ := List.mem_map.mp hp
    exact c.empty d hd
  · obtain ⟨d, hd, rfl⟩ := List.mem_map.mp hp
    exact c.out d hd
  · obtain ⟨d, hd, rfl⟩ := List.mem_map.mp hp
    exact PySem.W.codeHd_of_K X (c.hd d hd)
  · have hH1 : ∀ d, d ∈ tgl → d ∈ tf := by decide
    have hH2 : ∀ z ∈ tll, z.1 ∈ tf := by
      intro z hz
      simp only [tll, List.mem_cons, List.not_mem_nil, or_false] at hz
      rcases hz with rfl <;> decide
    exact law_start hl hbits (fun P hP => by
      obtain ⟨d, hd, rfl⟩ := List.mem_map.mp hP
      exact ⟨#[], hH _ (List.mem_map.mpr ⟨d, hH1 d hd, rfl⟩), trivial, ngl d hd⟩) (fun p hp => by
      obtain ⟨z, hz, rfl⟩ := List.mem_map.mp hp
      exact LamX.TabS.nil (hH _ (List.mem_map.mpr ⟨z.1, hH2 z hz, rfl⟩))) hS
  · have G_is_number := ok_is_number (P := PySem.Challenge.rw_fewforests_k42_cheapest_bent.prog) (w := w) (base := base) (tb := tgl.map fun p => (He.cT K p).2) (lt := tll.map fun z => ((He.cT K z.1).2, z.2)) T D_is_number LO
    have G_is_rising := ok_is_rising (P := PySem.Challenge.rw_fewforests_k42_cheapest_bent.prog) (w := w) (base := base) (tb := tgl.map fun p => (He.cT K p).2) (lt := tll.map fun z => ((He.cT K z.1).2, z.2)) T D_is_rising LO D_is_number G_is_number
    have G_leader_of := ok_leader_of (P := PySem.Challenge.rw_fewforests_k42_cheapest_bent.prog) (w := w) (base := base) (tb := tgl.map fun p => (He.cT K p).2) (lt := tll.map fun z => ((He.cT K z.1).2, z.2)) T D_leader_of LO
    have G_join_points := ok_join_points (P := PySem.Challenge.rw_fewforests_k42_cheapest_bent.prog) (w := w) (base := base) (tb := tgl.map fun p => (He.cT K p).2) (lt := tll.map fun z => ((He.cT K z.1).2, z.2)) T D_join_points LO D_leader_of G_leader_of
    have G_ringless := ok_ringless (P := PySem.Challenge.rw_fewforests_k42_cheapest_bent.prog) (w := w) (base := base) (tb := tgl.map fun p => (He.cT K p).2) (lt := tll.map fun z => ((He.cT K z.1).2, z.2)) T D_ringless LO D_join_points G_join_points
    have G_ties_by_forest := ok_ties_by_forest (P := PySem.Challenge.rw_fewforests_k42_cheapest_bent.prog) (w := w) (base := base) (tb := tgl.map fun p => (He.cT K p).2) (lt := tll.map fun z => ((He.cT K z.1).2, z.2)) T D_ties_by_forest LO
    have G_right_laying := ok_right_laying (P := PySem.Challenge.rw_fewforests_k42_cheapest_bent.prog) (w := w) (base := base) (tb := tgl.map fun p => (He.cT K p).2) (lt := tll.map fun z => ((He.cT K z.1).2, z.2)) T D_right_laying LO D_is_number G_is_number D_ringless G_ringless D_ties_by_forest G_ties_by_forest (hTB (He.cT K ("right_laying", none)) (List.mem_map.mpr ⟨("right_laying", none), by decide, rfl⟩)) (code_is F_right_laying hcd_right_laying) (List.mem_map.mpr ⟨("right_laying", none), by decide, rfl⟩)
    have G_is_lot := ok_is_lot (P := PySem.Challenge.rw_fewforests_k42_cheapest_bent.prog) (w := w) (base := base) (tb := tgl.map fun p => (He.cT K p).2) (lt := tll.map fun z => ((He.cT K z.1).2, z.2)) T D_is_lot LO D_is_rising G_is_rising
    have G_is_tight_by := ok_is_tight_by (P := PySem.Challenge.rw_fewforests_k42_cheapest_bent.prog) (w := w) (base := base) (tb := tgl.map fun p => (He.cT K p).2) (lt := tll.map fun z => ((He.cT K z.1).2, z.2)) T D_is_tight_by LO
    have G_cheapness := ok_cheapness (P := PySem.Challenge.rw_fewforests_k42_cheapest_bent.prog) (w := w) (base := base) (tb := tgl.map fun p => (He.cT K p).2) (lt := tll.map fun z => ((He.cT K z.1).2, z.2)) T D_cheapness LO
    have G_is_cheaper := ok_is_cheaper (P := PySem.Challenge.rw_fewforests_k42_cheapest_bent.prog) (w := w) (base := base) (tb := tgl.map fun p => (He.cT K p).2) (lt := tll.map fun z => ((He.cT K z.1).2, z.2)) T D_is_cheaper LO D_cheapness G_cheapness
    have G_is_reason := ok_is_reason (P := PySem.Challenge.rw_fewforests_k42_cheapest_bent.prog) (w := w) (base := base) (tb := tgl.map fun p => (He.cT K p).2) (lt := tll.map fun z => ((He.cT K z.1).2, z.2)) T D_is_reason LO D_is_lot G_is_lot D_is_tight_by G_is_tight_by D_is_cheaper G_is_cheaper
    have G_right_cheapest := ok_right_cheapest (P := PySem.Challenge.rw_fewforests_k42_cheapest_bent.prog) (w := w) (base := base) (tb := tgl.map fun p => (He.cT K p).2) (lt := tll.map fun z => ((He.cT K z.1).2, z.2)) T D_right_cheapest LO D_right_laying G_right_laying D_is_reason G_is_reason (hTB (He.cT K ("right_cheapest", none)) (List.mem_map.mpr ⟨("right_cheapest", none), by decide, rfl⟩)) (code_is F_right_cheapest hcd_right_cheapest) (List.mem_map.mpr ⟨("right_cheapest", none), by decide, rfl⟩)
    have G__law_mixed := ok__law_mixed (P := PySem.Challenge.rw_fewforests_k42_cheapest_bent.prog) (w := w) (base := base) (tb := tgl.map fun p => (He.cT K p).2) (lt := tll.map fun z => ((He.cT K z.1).2, z.2)) T D__law_mixed LO
    have G__law_deck := ok__law_deck (P := PySem.Challenge.rw_fewforests_k42_cheapest_bent.prog) (w := w) (base := base) (tb := tgl.map fun p => (He.cT K p).2) (lt := tll.map fun z => ((He.cT K z.1).2, z.2)) T D__law_deck LO D__law_mixed G__law_mixed
    have G__law_next := ok__law_next (P := PySem.Challenge.rw_fewforests_k42_cheapest_bent.prog) (w := w) (base := base) (tb := tgl.map fun p => (He.cT K p).2) (lt := tll.map fun z => ((He.cT K z.1).2, z.2)) T D__law_next LO
    have G__law_tie := ok__law_tie (P := PySem.Challenge.rw_fewforests_k42_cheapest_bent.prog) (w := w) (base := base) (tb := tgl.map fun p => (He.cT K p).2) (lt := tll.map fun z => ((He.cT K z.1).2, z.2)) T D__law_tie LO D__law_next G__law_next
    have G__law_any_web := ok__law_any_web (P := PySem.Challenge.rw_fewforests_k42_cheapest_bent.prog) (w := w) (base := base) (tb := tgl.map fun p => (He.cT K p).2) (lt := tll.map fun z => ((He.cT K z.1).2, z.2)) T D__law_any_web LO D__law_next G__law_next D__law_tie G__law_tie
    have G__law_round := ok__law_round (P := PySem.Challenge.rw_fewforests_k42_cheapest_bent.prog) (w := w) (base := base) (tb := tgl.map fun p => (He.cT K p).2) (lt := tll.map fun z => ((He.cT K z.1).2, z.2)) T D__law_round LO
    have G__law_full := ok__law_full (P := PySem.Challenge.rw_fewforests_k42_cheapest_bent.prog) (w := w) (base := base) (tb := tgl.map fun p => (He.cT K p).2) (lt := tll.map fun z => ((He.cT K z.1).2, z.2)) T D__law_full LO
    have G__law_tree := ok__law_tree (P := PySem.Challenge.rw_fewforests_k42_cheapest_bent.prog) (w := w) (base := base) (tb := tgl.map fun p => (He.cT K p).2) (lt := tll.map fun z => ((He.cT K z.1).2, z.2)) T D__law_tree LO D__law_next G__law_next
    have G__law_web := ok__law_web (P := PySem.Challenge.rw_fewforests_k42_cheapest_bent.prog) (w := w) (base := base) (tb := tgl.map fun p => (He.cT K p).2) (lt := tll.map fun z => ((He.cT K z.1).2, z.2)) T D__law_web LO D__law_next G__law_next D__law_any_web G__law_any_web D__law_round G__law_round D__law_full G__law_full D__law_tree G__law_tree
    have G__law_heads := ok__law_heads (P := PySem.Challenge.rw_fewforests_k42_cheapest_bent.prog) (w := w) (base := base) (tb := tgl.map fun p => (He.cT K p).2) (lt := tll.map fun z => ((He.cT K z.1).2, z.2)) T D__law_heads LO
    have G__law_is_forest := ok__law_is_forest (P := PySem.Challenge.rw_fewforests_k42_cheapest_bent.prog) (w := w) (base := base) (tb := tgl.map fun p => (He.cT K p).2) (lt := tll.map fun z => ((He.cT K z.1).2, z.2)) T D__law_is_forest LO D__law_heads G__law_heads
    have G__law_is_int := ok__law_is_int (P := PySem.Challenge.rw_fewforests_k42_cheapest_bent.prog) (w := w) (base := base) (tb := tgl.map fun p => (He.cT K p).2) (lt := tll.map fun z => ((He.cT K z.1).2, z.2)) T D__law_is_int LO
    have G__law_is_true := ok__law_is_true (P := PySem.Challenge.rw_fewforests_k42_cheapest_bent.prog) (w := w) (base := base) (tb := tgl.map fun p => (He.cT K p).2) (lt := tll.map fun z => ((He.cT K z.1).2, z.2)) T D__law_is_true LO
    have G__law_lot := ok__law_lot (P := PySem.Challenge.rw_fewforests_k42_cheapest_bent.prog) (w := w) (base := base) (tb := tgl.map fun p => (He.cT K p).2) (lt := tll.map fun z => ((He.cT K z.1).2, z.2)) T D__law_lot LO D__law_next G__law_next
    have G__law_odd_things := ok__law_odd_things (P := PySem.Challenge.rw_fewforests_k42_cheapest_bent.prog) (w := w) (base := base) (tb := tgl.map fun p => (He.cT K p).2) (lt := tll.map fun z => ((He.cT K z.1).2, z.2)) T D__law_odd_things LO
    have G__law_lots := ok__law_lots (P := PySem.Challenge.rw_fewforests_k42_cheapest_bent.prog) (w := w) (base := base) (tb := tgl.map fun p => (He.cT K p).2) (lt := tll.map fun z => ((He.cT K z.1).2, z.2)) T D__law_lots LO
    have G__law_can := ok__law_can (P := PySem.Challenge.rw_fewforests_k42_cheapest_bent.prog) (w := w) (base := base) (tb := tgl.map fun p => (He.cT K p).2) (lt := tll.map fun z => ((He.cT K z.1).2, z.2)) T D__law_can LO D__law_lots G__law_lots
    have G__law_order := ok__law_order (P := PySem.Challenge.rw_fewforests_k42_cheapest_bent.prog) (w := w) (base := base) (tb := tgl.map fun p => (He.cT K p).2) (lt := tll.map fun z => ((He.cT K z.1).2, z.2)) T D__law_order LO (hTB (He.cT K ("_law_order", none)) (List.mem_map.mpr ⟨("_law_order", none), by decide, rfl⟩)) (code_is F__law_order hcd__law_order) (List.mem_map.mpr ⟨(("_law_order", none), ("_law_order" : Str) ++ ".<locals>." ++ "<lambda>"), by simp [tll], rfl⟩)
    have G__law_cheapest := ok__law_cheapest (P := PySem.Challenge.rw_fewforests_k42_cheapest_bent.prog) (w := w) (base := base) (tb := tgl.map fun p => (He.cT K p).2) (lt := tll.map fun z => ((He.cT K z.1).2, z.2)) T D__law_cheapest LO D__law_can G__law_can D__law_order G__law_order
    have G__law_spread := ok__law_spread (P := PySem.Challenge.rw_fewforests_k42_cheapest_bent.prog) (w := w) (base := base) (tb := tgl.map fun p => (He.cT K p).2) (lt := tll.map fun z => ((He.cT K z.1).2, z.2)) T D__law_spread LO D__law_is_forest G__law_is_forest
    have G__law_prices := ok__law_prices (P := PySem.Challenge.rw_fewforests_k42_cheapest_bent.prog) (w := w) (base := base) (tb := tgl.map fun p => (He.cT K p).2) (lt := tll.map fun z => ((He.cT K z.1).2, z.2)) T D__law_prices LO D__law_next G__law_next
    have G__law_priced := ok__law_priced (P := PySem.Challenge.rw_fewforests_k42_cheapest_bent.prog) (w := w) (base := base) (tb := tgl.map fun p => (He.cT K p).2) (lt := tll.map fun z => ((He.cT K z.1).2, z.2)) T D__law_priced LO D__law_next G__law_next D__law_web G__law_web D__law_prices G__law_prices
    have G__law_cheaper_within := ok__law_cheaper_within (P := PySem.Challenge.rw_fewforests_k42_cheapest_bent.prog) (w := w) (base := base) (tb := tgl.map fun p => (He.cT K p).2) (lt := tll.map fun z => ((He.cT K z.1).2, z.2)) T D__law_cheaper_within LO
    have G__law_is_lot := ok__law_is_lot (P := PySem.Challenge.rw_fewforests_k42_cheapest_bent.prog) (w := w) (base := base) (tb := tgl.map fun p => (He.cT K p).2) (lt := tll.map fun z => ((He.cT K z.1).2, z.2)) T D__law_is_lot LO D__law_is_int G__law_is_int
    have G__law_is_reason := ok__law_is_reason (P := PySem.Challenge.rw_fewforests_k42_cheapest_bent.prog) (w := w) (base := base) (tb := tgl.map fun p => (He.cT K p).2) (lt := tll.map fun z => ((He.cT K z.1).2, z.2)) T D__law_is_reason LO D__law_cheaper_within G__law_cheaper_within D__law_is_lot G__law_is_lot
    have G__law_is_laying := ok__law_is_laying (P := PySem.Challenge.rw_fewforests_k42_cheapest_bent.prog) (w := w) (base := base) (tb := tgl.map fun p => (He.cT K p).2) (lt := tll.map fun z => ((He.cT K z.1).2, z.2)) T D__law_is_laying LO D__law_is_forest G__law_is_forest D__law_is_int G__law_is_int
    have G__law_is_cheapest := ok__law_is_cheapest (P := PySem.Challenge.rw_fewforests_k42_cheapest_bent.prog) (w := w) (base := base) (tb := tgl.map fun p => (He.cT K p).2) (lt := tll.map fun z => ((He.cT K z.1).2, z.2)) T D__law_is_cheapest LO D__law_is_reason G__law_is_reason D__law_is_laying G__law_is_laying
    have G__law_paper := ok__law_paper (P := PySem.Challenge.rw_fewforests_k42_cheapest_bent.prog) (w := w) (base := base) (tb := tgl.map fun p => (He.cT K p).2) (lt := tll.map fun z => ((He.cT K z.1).2, z.2)) T D__law_paper LO D__law_next G__law_next D__law_lots G__law_lots D__law_cheapest G__law_cheapest D__law_spread G__law_spread D__law_is_reason G__law_is_reason
    have G__law_with := ok__law_with (P := PySem.Challenge.rw_fewforests_k42_cheapest_bent.prog) (w := w) (base := base) (tb := tgl.map fun p => (He.cT K p).2) (lt := tll.map fun z => ((He.cT K z.1).2, z.2)) T D__law_with LO
    have G__law_laying_bent := ok__law_laying_bent (P := PySem.Challenge.rw_fewforests_k42_cheapest_bent.prog) (w := w) (base := base) (tb := tgl.map fun p => (He.cT K p).2) (lt := tll.map fun z => ((He.cT K z.1).2, z.2)) T D__law_laying_bent LO D__law_next G__law_next D__law_with G__law_with
    have G__law_reasons_bent := ok__law_reasons_bent (P := PySem.Challenge.rw_fewforests_k42_cheapest_bent.prog) (w := w) (base := base) (tb := tgl.map fun p => (He.cT K p).2) (lt := tll.map fun z => ((He.cT K z.1).2, z.2)) T D__law_reasons_bent LO D__law_next G__law_next D__law_lot G__law_lot D__law_odd_things G__law_odd_things D__law_with G__law_with
    have G__law_bent := ok__law_bent (P := PySem.Challenge.rw_fewforests_k42_cheapest_bent.prog) (w := w) (base := base) (tb := tgl.map fun p => (He.cT K p).2) (lt := tll.map fun z => ((He.cT K z.1).2, z.2)) T D__law_bent LO D__law_next G__law_next D__law_odd_things G__law_odd_things D__law_laying_bent G__law_laying_bent D__law_reasons_bent G__law_reasons_bent
    have G_law := ok_law (P := PySem.Challenge.rw_fewforests_k42_cheapest_bent.prog) (w := w) (base := base) (tb := tgl.map fun p => (He.cT K p).2) (lt := tll.map fun z => ((He.cT K z.1).2, z.2)) T D_law LO D_right_cheapest G_right_cheapest D__law_deck G__law_deck D__law_is_true G__law_is_true D__law_prices G__law_prices D__law_priced G__law_priced D__law_is_cheapest G__law_is_cheapest D__law_paper G__law_paper D__law_bent G__law_bent
    exact G_law
end FF
open PySem PySem.W PySem.Calls PyProof.Rows
theorem PySem.Challenge.cw_fewforests_k42_cheapest_bent_holds : PySem.Challenge.rw_fewforests_k42_cheapest_bent.Holds := by
  w_on; o_law
  refine HandSHeadRun.head_any (r := OpenLaw.row PySem.Challenge.rw_fewforests_k42_cheapest_bent) (q := view (OpenLaw.row PySem.Challenge.rw_fewforests_k42_cheapest_bent).prog [51]) (H := FF.hk) (ob := FF.ob) (M := 3000) (loose := FF.loose) (d := HandSHeadRun.topDef (OpenLaw.row PySem.Challenge.rw_fewforests_k42_cheapest_bent).prog 51) (kwd := []) FF.ob_eq
    (by kernel_rfl) (fun s => by kernel_rfl) FF.run (by kernel_rfl) (by kernel_rfl) (by kernel_rfl) (by rfl) (by first | assumption | decide +kernel) (by decide +kernel) ⟨rfl, rfl, rfl, rfl, rfl, by decide +kernel⟩ ?hw ?hc
  case hw => w_witness2
  case hc =>
    haveI : FF.LT := ⟨fun _ => false⟩
    refine FF.walk_ofG (l := PySem.Challenge.rw_fewforests_k42_cheapest_bent) (n := 63) (k := 9) (x := "_law_script") rfl (by decide) (by kernel_rfl) ⟨rfl, by decide, by decide⟩ ?F
    intro w mg fa h Y G hmg0
    obtain ⟨K, KX, c⟩ := Y
    have hmg : mg ("law" : PySem.Str) = some (.ref fa) := by
      have e : (HandSHeadRun.topDef (OpenLaw.row PySem.Challenge.rw_fewforests_k42_cheapest_bent).prog 51).name = ("law" : PySem.Str) := by kernel_rfl
      rw [← e]
      exact hmg0
    exact ⟨K, KX, FF.lawAt KX G hmg c⟩
