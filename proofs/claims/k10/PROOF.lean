import PyProof.Rows.All
import Wide.All
import OpenK.AllK
import Wide.FinOn
import HandS.ForMost
import HandS.Rev
import HandS.RevTup
import PyProof.ListStr
import HandS.Style
import HandS.IsInst
import HandS.Walk
import HandS.Text
import KE.KIntText
import HandS.Iter
import KE.GoesEnum
import KE.KExcIs
import HandS.ForExc
import HandS.ExcIs
import HandS.ExcInit
import HandS.ExcField
import HandS.CallLocal
import HandS.Sort
import PyProof.EqAt
import PyProof.NeKinds
import HandS.Conv
import HandS.ListItems
import HandS.DeepEq
import HandS.Comp
import HandS.DictComp
import HandS.Finally
import HandS.List
import HandS.Deep
import HandS.Zip
import KE.GoesZip
import KE.KDictZip
import HandS.Codes
import HandS.Star
import HandS.Evl
import HandS.RaiseMore
import PyProof.StrBlock2
import HandS.TupAny
import HandS.TryOnly
import HandS.More
import HandS.CallSlots
import PySem.Challenge.RW_askladder_k10_parts_and_pieces
set_option Elab.async false
set_option maxRecDepth 100000
set_option maxHeartbeats 1000000
/-! list(reversed(x)), x a list: a new list -/
namespace Ak
open PySem PySem.Spec PyProof.Rows L2 RT
/-- the new list's maker, called on the iterator that goes down a list -/
theorem list_of_down {P : Program} {w : World} {B : Around} {X : Value → Shared → Prop} {z : Shared} {Want : Value → Shared → Prop} {it src : Addr} {vs : Array Value} (calm : B.handled = none) (small : vs.size ≤ sizeLine)
    (at_it : z.heap.IsRevIter it src ((vs.size : Int) - 1)) (at_src : z.heap.IsList src vs) (apart : src ≠ it)
    (goal : ∀ (g : Heap) (tk : Nat) (got : Array Value) (c : Nat), (∀ b o, b ≠ it → z.heap.get? b = some o → g.get? b = some o) → g.get? z.heap.objs.size = some { cls := .type "list", dict := none, data := .seq got c, slots := #[] } →
      ItemsOf (fun i v => vs[vs.size - 1 - i]? = some v) got vs.size → Want (.ref z.heap.objs.size) { z with heap := g, toks := tk }) : wpAny (model P w) B (call (.type "list") [.ref it]) Want X z := by
  obtain ⟨o1, e1, _⟩ := id at_it
  obtain ⟨o2, e2, _⟩ := id at_src
  have n1 := Nat.ne_of_gt (Heap.lt_size e1); have n2 := Nat.ne_of_gt (Heap.lt_size e2)
  refine callType_codes F.called_list (F.typeCall_list_1 _) F.entry_list_init (code_list_new (Q₁ := fun r q => r = .ref z.heap.objs.size ∧ q = { z with heap := z.heap.push { cls := .type "list", data := .seq #[] } }) _ ⟨rfl, rfl⟩) ?_
  rintro _ _ ⟨rfl, rfl⟩
  have new0 := Heap.get?_push_size (o := ({ cls := .type "list", data := .seq #[] } : Obj)) z.heap rfl
  have at_it1 := at_it.at (h' := z.heap.push { cls := .type "list", data := .seq #[] }) fun o e => Heap.get?_push_of_some _ e
  have at_src1 := at_src.push { cls := .type "list", data := .seq #[] }
  refine ⟨⟨_, new0, rfl⟩, F.args_list_init_2 _ _, ?_⟩
  generalize hz : z.heap.objs.size = S at *
  have same : ∀ {b : Addr} {o : Obj}, b ≠ S → (z.heap.push { cls := .type "list", data := .seq #[] }).get? b = some o → ((z.heap.push { cls := .type "list", data := .seq #[] }).update S (Obj.mapSeq fun _ => #[])).get? b = some o := fun nb e => by
    rw [Heap.get?_update_other _ _ (Ne.symm nb)]; exact e
  refine wpAny_bind (m := Builtin.List.listItems (.ref S)) ?_
  unfold Builtin.List.listItems; refine wpAny_bind (wpAny_seqItems new0 rfl (wpAny_pure ?_))
  refine wpAny_bind (m := Builtin.List.listUpdate (.ref S) fun _ => #[]) ?_
  refine wpAny_updateSeq (f := fun _ => #[]) new0 rfl (wpAny_bind (wpAny_letGo ?_))
  have new1 := Heap.get?_update_self (Obj.mapSeq fun _ => #[]) new0 rfl
  have at_it2 := at_it1.at fun o e => same n1.symm e
  have at_src2 : ((z.heap.push { cls := .type "list", data := .seq #[] }).update S (Obj.mapSeq fun _ => #[])).IsList src vs := let ⟨o, e, r⟩ := at_src1; ⟨o, same n2.symm e, r⟩
  have ty := Heap.IsRevIter.typeIs (s := { z with heap := (z.heap.push { cls := .type "list", data := .seq #[] }).update S (Obj.mapSeq fun _ => #[]) }) at_it2
  have other : Builtin.List.listSameRef (.ref S) (.ref it) = false := by simp [Builtin.List.listSameRef, n1]
  unfold Builtin.List.listExtendWith; refine wpAny_bind (wpAny_typeOf ty ?_); rw [if_neg (by rw [other]; decide)]
  refine wpAny_bind (wpAny_pyIter_revIter (s := { z with heap := (z.heap.push { cls := .type "list", data := .seq #[] }).update S (Obj.mapSeq fun _ => #[]) }) at_it2 (wpAny_bind (wpAny_holding ?_)))
  unfold Builtin.List.listLengthHint; refine wpAny_bind (wpAny_specialOf ty nolen_lri (wpAny_bind (m := specialOf (.ref it) (Str.ofString "__length_hint__")) (wpAny_specialOf ty hint_lri ?_)))
  generalize idd : ("list_reverseiterator.__length_hint__" : String) = hint
  wp_delta
  have cut : splitId hint = some ("list_reverseiterator", "__length_hint__") := by subst idd; decide +kernel
  rw [cut]; subst idd
  refine wpAny_bind (wpAny_isInstance (b := true) ty (by rw [isSubtype_type]; kernel_rfl) (wpAny_pure ?_)); rw [if_neg (by decide)]
  have walks := (Walks.listRev (prog := P) (w := w) (A := B.in1.in1) calm it src apart vs).toS
  have out : S ∉ [it, src] := fun m => by simp only [List.mem_cons, List.not_mem_nil, or_false] at m; exact m.elim n1 n2
  have top : (vs.size : Int) - 1 - ((0 : Nat) : Int) = (vs.size : Int) - 1 := by omega
  refine wpAny_pure ⟨plainId_quiet F.plain_extend_loop _, codeAny_extend_loopS walks small S out Value.none vs.size 0 _ #[] _ rfl (Nat.zero_le _) ⟨Nat.zero_le _, by rw [top]; exact at_it2, at_src2⟩ new1 (ItemsOf.nil _) ?_⟩
  intro q got c moved stands items
  rw [moved.eq_with]
  refine ⟨rfl, goal q.heap q.toks got c (fun b o nb e => moved.heap b o (fun m => ?_) (same ?_ (Heap.get?_push_of_some _ e))) stands items⟩
  · exact (List.mem_cons.mp m).elim (fun x => Nat.ne_of_lt (Heap.lt_size e) (x.trans hz.symm)) fun x => nb (List.mem_singleton.mp x)
  · exact fun x => Nat.ne_of_lt (Heap.lt_size e) (x.trans hz.symm)
/-- list(reversed(x)): x a list, what comes a new one -/
def tLstRev (K : PySem.W.Frag) (te : TE) : TE := fun σ H Q => te σ H fun v H1 => ∃ (a : Addr) (xs : List V), v = .ref a ∧ SqL K H1 a xs ∧ ∀ q, H1 q = none → Q (.ref q) (upd H1 q (.lst xs.reverse))
theorem pe_lstRev {X : Cx} {e : Expr} {te : TE} {p p2 pos pos2 : Pos} (calm : X.calm = true) (g1 : Gl X "list") (m1 : X.mg "list" = none) (g2 : Gl X "reversed") (m2 : X.mg "reversed" = none) (he : PE X e te)
    (one : starEach [e] X.env = [(false, eval e X.env)] := by rfl) (two : starEach [.Call (.Name "reversed" p2) [e] [] pos2] X.env = [(false, eval (.Call (.Name "reversed" p2) [e] [] pos2) X.env)] := by rfl) :
    PE X (.Call (.Name "list" p) [.Call (.Name "reversed" p2) [e] [] pos2] [] pos) (tLstRev X.K te) := by
  constructor
  intro pins s σ H Q I reading
  refine Call_ (ld_blt I g1 m1 PyProof.Rows.boot_list (PyProof.Rows.callWith_type1 (args_cons (Call_ ?_) two) two rfl))
  refine ld_blt I g2 m2 PyProof.Rows.boot_reversed (PyProof.Rows.callWith_type1 (args_cons (thn (he.run pins s σ H _ I reading) ?_) one) one rfl)
  rintro v z ⟨_, J, IJ, rv, src, xs, rfl, seq, rest⟩
  obtain rfl : v = Value.ref src := rv
  obtain ⟨us, rel, stands, small⟩ := IJ.list seq
  refine args_nil (call_reversed_list stands.isList (args_nil ?_))
  have small' : us.toArray.size ≤ sizeLine := by have e := rel.length; simp only [List.size_toArray]; omega
  have isl := stands.isList.push (revObj src ((us.toArray.size : Int) - 1))
  have grown := IJ.kept (h' := z.heap.push (revObj src ((us.toArray.size : Int) - 1))) (t' := z.toks) fun _ _ x => Heap.get?_push_of_some _ x
  have free1 := IJ.fpOk (Nat.le_refl _) (IJ.hok.fresh (Nat.le_refl z.heap.objs.size))
  have apart : src ≠ z.heap.objs.size := let ⟨_, x, _⟩ := id stands.isList; Nat.ne_of_lt (Heap.lt_size x)
  have iter : (z.heap.push (revObj src ((us.toArray.size : Int) - 1))).IsRevIter z.heap.objs.size src ((us.toArray.size : Int) - 1) := ⟨_, Heap.get?_push_size _ rfl, rfl, rfl⟩
  generalize hh : z.heap.push (revObj src ((us.toArray.size : Int) - 1)) = h1 at *
  have none2 := grown.hok.fresh (Nat.le_refl h1.objs.size)
  have free2 := grown.fpOk (Nat.le_refl _) none2
  refine list_of_down (z := { z with heap := h1 }) (IJ.ok.hd calm) small' iter isl apart fun g tk got c kept made items => ?_
  have noIt : ∀ {b : Addr} {u : HO}, J b = some u → b ≠ z.heap.objs.size := fun e x => by rw [x, free1.1] at e; cases e
  have old : ∀ {b : Addr} {u : HO}, J b = some u → b ≠ h1.objs.size := fun e => ne_of_none e none2
  have held : HOk X.prog X.w (upd J h1.objs.size (.lst xs.reverse)) g := by
    intro b u e
    by_cases eb : b = h1.objs.size
    · subst eb
      rw [upd_same] at e; cases e
      exact ⟨Nat.le_trans (Nat.le_of_eq List.length_reverse) small, got.toList, c, vals_rev rel items, by simpa using made⟩
    · rw [upd_ne eb] at e
      exact (grown.hok b u e).stay (fun d v at_ q => kept d v (at_.elim (fun x => x ▸ noIt e) fun x => noIt x) q) (fun d q => (upd_ne (old q)).trans q) fun d ys q => (upd_ne (old q)).trans q
  have changed : ∀ {b : Addr}, b ∉ [z.heap.objs.size, h1.objs.size] → b ≠ z.heap.objs.size ∧ b ≠ h1.objs.size := fun n => ⟨fun x => n (by simp [x]), fun x => n (by simp [x])⟩
  refine ⟨.ref h1.objs.size, upd J h1.objs.size (.lst xs.reverse), grown.step (ch := [z.heap.objs.size, h1.objs.size]) (g' := z.gens) (d' := z.drawn) (t' := tk) ?_ (fun b o _ _ n e _ => kept b o (changed n).1 e) (fun b o _ _ n e _ => ⟨_, kept b o (changed n).1 e⟩)
    (fun b o n _ e => (upd_ne (changed n).2).trans e) (fun b o n e => ⟨o, kept b o (changed n).1 e⟩) (fun b ys e => (upd_ne (old e)).trans e) (fun b o u e => (upd_ne (old e)).trans e) (fun b ps e => ⟨#[], by rw [upd_ne (old e), e, Array.append_empty]⟩) ?_ held IJ.bare, rfl, rest _ none2⟩
  · intro b m
    rcases (by simpa using m : b = z.heap.objs.size ∨ b = h1.objs.size) with rfl | rfl
    · exact ⟨free1.2.2.2.1, free1.2.1, free1.2.2.2.2⟩
    · exact ⟨free2.2.2.2.1, free2.2.1, free2.2.2.2.2⟩
  · rintro m ⟨o, es, ep, e, r⟩
    exact ⟨o, es, ep, kept _ o (Ne.symm free1.2.1) e, r⟩
end Ak
/-! What all the laws' proofs share: a def as the top left it; the box of draws (a dict with a seed, a number, a list of numbers left). -/
namespace Ak
open PySem L2

/-- a def of the top, called by its name -/
structure Fn (K : PySem.W.Frag) (mg : Str → Option Value) (nm : Str) (st : Stmt) (ps : List Str) (f : Addr) (fd : FuncData) : Prop where
  mg : mg nm = some (.ref f)
  kp : PySem.W.keepIn K (.ref f) = true
  F : Fun K nm nm st f fd
  b : Binds K fd ps []

/-! ### the box of draws -/
theorem kSN : ¬ ((Sum.inr ("seed" : Str) : Key) = Sum.inr ("number" : Str)) := by decide +kernel
theorem kSL : ¬ ((Sum.inr ("seed" : Str) : Key) = Sum.inr ("left" : Str)) := by decide +kernel
theorem kNL : ¬ ((Sum.inr ("number" : Str) : Key) = Sum.inr ("left" : Str)) := by decide +kernel
theorem kNS : ¬ ((Sum.inr ("number" : Str) : Key) = Sum.inr ("seed" : Str)) := by decide +kernel
theorem kLS : ¬ ((Sum.inr ("left" : Str) : Key) = Sum.inr ("seed" : Str)) := by decide +kernel
theorem kLN : ¬ ((Sum.inr ("left" : Str) : Key) = Sum.inr ("number" : Str)) := by decide +kernel
def dealL (s n : Int) (l : Addr) : List (Key × V) := [(Sum.inr ("seed" : Str), .int s), (Sum.inr ("number" : Str), .int n), (Sum.inr ("left" : Str), .ref l)]
theorem deal_seed (s n : Int) (l : Addr) : valV (dealL s n l) (Sum.inr ("seed" : Str)) = some (.int s) := valV_pos rfl
theorem deal_number (s n : Int) (l : Addr) : valV (dealL s n l) (Sum.inr ("number" : Str)) = some (.int n) := (valV_neg kSN).trans (valV_pos rfl)
theorem deal_left (s n : Int) (l : Addr) : valV (dealL s n l) (Sum.inr ("left" : Str)) = some (.ref l) := (valV_neg kSL).trans ((valV_neg kNL).trans (valV_pos rfl))
theorem deal_puts (s n x : Int) (l : Addr) : putK (dealL s n l) (Sum.inr ("seed" : Str)) (.int x) = dealL x n l := by
  have e1 := decide_eq_false kNS
  have e2 := decide_eq_false kLS
  unfold putK dealL
  rw [if_pos (by simp)]
  simp only [List.map_cons, List.map_nil, if_pos, if_neg kNS, if_neg kLS]
theorem deal_putn (s n x : Int) (l : Addr) : putK (dealL s n l) (Sum.inr ("number" : Str)) (.int x) = dealL s x l := by
  unfold putK dealL
  rw [if_pos (by simp)]
  simp only [List.map_cons, List.map_nil, if_pos, if_neg kSN, if_neg kLN]

theorem deal_gs {H : Hp} {d l : Addr} {s n : Int} (e : H d = some (.dK (dealL s n l))) : DGet H d (.str ("seed" : Str)) (some (.int s)) := by
  rw [← deal_seed s n l]; exact DGet.k (k := Sum.inr ("seed" : Str)) e
theorem deal_gn {H : Hp} {d l : Addr} {s n : Int} (e : H d = some (.dK (dealL s n l))) : DGet H d (.str ("number" : Str)) (some (.int n)) := by
  rw [← deal_number s n l]; exact DGet.k (k := Sum.inr ("number" : Str)) e
theorem deal_gl {H : Hp} {d l : Addr} {s n : Int} (e : H d = some (.dK (dealL s n l))) : DGet H d (.str ("left" : Str)) (some (.ref l)) := by
  rw [← deal_left s n l]; exact DGet.k (k := Sum.inr ("left" : Str)) e
theorem deal_ps {H : Hp} {d l : Addr} {s n : Int} (x : Int) (e : H d = some (.dK (dealL s n l))) : DPut H d (.str ("seed" : Str)) (.int x) (upd H d (.dK (dealL x n l))) := by
  rw [← deal_puts s n x l]; exact DPut.k (k := Sum.inr ("seed" : Str)) e (by show 3 < sizeLine; decide)
theorem deal_pn {H : Hp} {d l : Addr} {s n : Int} (x : Int) (e : H d = some (.dK (dealL s n l))) : DPut H d (.str ("number" : Str)) (.int x) (upd H d (.dK (dealL s x l))) := by
  rw [← deal_putn s n x l]; exact DPut.k (k := Sum.inr ("number" : Str)) e (by show 3 < sizeLine; decide)

theorem deal_merge (s n : Int) (l : Addr) : mergeK ([] : List (Key × V)) (dealL s n l) = dealL s n l := by
  show putK (putK (putK [] (Sum.inr ("seed" : Str)) (.int s)) (Sum.inr ("number" : Str)) (.int n)) (Sum.inr ("left" : Str)) (.ref l) = dealL s n l
  rw [putK_new (kvs := []) _ rfl, putK_new (kvs := [] ++ [(Sum.inr ("seed" : Str), V.int s)]) _ ((valV_neg kSN).trans rfl), putK_new (kvs := [] ++ [(Sum.inr ("seed" : Str), V.int s)] ++ [(Sum.inr ("number" : Str), V.int n)]) _ ((valV_neg kSL).trans ((valV_neg kNL).trans rfl))]
  rfl
def ab (x : Int) : Int := if 0 - x > x then 0 - x else x
theorem ab_nonneg (x : Int) : 0 ≤ ab x := by unfold ab; split <;> omega

/-- a comprehension's turn without a test -/
theorem lc_yes {A B : Hp → Prop} {σ : L2.St} {H : Hp} (h : A H) : tYes σ H (fun b H3 => if b = true then A H3 else B H3) := by
  show (if true = true then A H else B H)
  rw [if_pos rfl]
  exact h

/-! ### tests that change nothing: p is what they decide -/
def Dec (t : TT) (σ : L2.St) (H : Hp) (p : Prop) : Prop := ∀ Q : Bool → Hp → Prop, (p → Q true H) → (¬ p → Q false H) → t σ H Q
theorem dec_and {t u : TT} {σ : L2.St} {H : Hp} {p q : Prop} (h1 : Dec t σ H p) (h2 : p → Dec u σ H q) : Dec (tAnd t u) σ H (p ∧ q) := fun Q a b => h1 _ (fun hp => by
  show u σ H Q
  exact h2 hp Q (fun hq => a ⟨hp, hq⟩) fun hq => b fun z => hq z.2) fun hp => by
  show Q false H
  exact b fun z => hp z.1
theorem dec_or {t u : TT} {σ : L2.St} {H : Hp} {p q : Prop} (h1 : Dec t σ H p) (h2 : ¬ p → Dec u σ H q) : Dec (tOr t u) σ H (p ∨ q) := fun Q a b => h1 _ (fun hp => by
  show Q true H
  exact a (.inl hp)) fun hp => by
  show u σ H Q
  exact h2 hp Q (fun hq => a (.inr hq)) fun hq => b fun z => z.elim hp hq
theorem dec_not {t : TT} {σ : L2.St} {H : Hp} {p : Prop} (h1 : Dec t σ H p) : Dec (tNot t) σ H (¬ p) := fun Q a b => h1 _ (fun hp => b fun z => z hp) a
/-- a test is the value of an expression -/
theorem dec_of {te : TE} {σ : L2.St} {H : Hp} {p : Prop} [Decidable p] (h : ∀ Q : VK, Q (.bl (decide p)) H → te σ H Q) : Dec (tTest te) σ H p := fun Q a b => h _ ⟨_, rfl, by
  by_cases hp : p
  · rw [decide_eq_true hp]; exact a hp
  · rw [decide_eq_false hp]; exact b hp⟩
theorem dec_if {t : TT} {u v : TS} {D : Ends} {σ : L2.St} {H : Hp} {p : Prop} (h : Dec t σ H p) (h1 : p → u D σ H) (h2 : ¬ p → v D σ H) : tIfS t u v D σ H := h _ (fun hp => iteT (h1 hp)) fun hp => iteF (h2 hp)
theorem Dec.iff {t : TT} {σ : L2.St} {H : Hp} {p q : Prop} (h : Dec t σ H p) (e : p ↔ q) : Dec t σ H q := fun Q a b => h Q (fun x => a (e.mp x)) fun x => b fun y => x (e.mpr y)

/-- the box stands at d, its list at l -/
def DealAt (H : Hp) (d l : Addr) : Prop := ∃ (s n : Int) (left : List Int), 0 ≤ s ∧ s < 2147483647 ∧ 0 ≤ n ∧ (∀ x ∈ left, 0 ≤ x) ∧ H d = some (.dK (dealL s n l)) ∧ H l = some (.lst (left.map V.int))
theorem DealAt.ne {H : Hp} {d l : Addr} (h : DealAt H d l) : d ≠ l := by
  obtain ⟨s, n, left, _, _, _, _, h1, h2⟩ := h
  exact ne_of h1 h2 (by intro z; cases z)
/-- all that is tracked stands as it stood, but for the box -/
def Kp (d l : Addr) (H H' : Hp) : Prop := ∀ b o, H b = some o → b ≠ d → b ≠ l → H' b = some o
theorem Kp.refl (d l : Addr) (H : Hp) : Kp d l H H := fun _ _ e _ _ => e
theorem Kp.trans {d l : Addr} {H H1 H2 : Hp} (a : Kp d l H H1) (b : Kp d l H1 H2) : Kp d l H H2 := fun c o e h1 h2 => b c o (a c o e h1 h2) h1 h2
theorem Kp.same {d l : Addr} {H H' : Hp} (a : Same H H') : Kp d l H H' := fun c o e _ _ => a c o e
theorem Same.new {H : Hp} {p : Addr} {o : HO} (h : H p = none) : Same H (upd H p o) := fun b u e => by rw [upd_ne (ne_of_none e h)]; exact e
theorem DealAt.same {H H' : Hp} {d l : Addr} (h : DealAt H d l) (a : Same H H') : DealAt H' d l := by
  obtain ⟨s, n, left, h1, h2, h3, h4, h5, h6⟩ := h
  exact ⟨s, n, left, h1, h2, h3, h4, a _ _ h5, a _ _ h6⟩
theorem DealAt.not {H : Hp} {d l p : Addr} {o : HO} (h : DealAt H d l) (e : H p = some o) (n1 : ∀ kvs, o ≠ .dK kvs) (n2 : ∀ xs, o ≠ .lst xs) : p ≠ d ∧ p ≠ l := by
  obtain ⟨s, n, left, _, _, _, _, h1, h2⟩ := h
  exact ⟨ne_of e h1 (n1 _), ne_of e h2 (n2 _)⟩
theorem DealAt.new {H : Hp} {d l p : Addr} (h : DealAt H d l) (e : H p = none) : p ≠ d ∧ p ≠ l := by
  obtain ⟨s, n, left, _, _, _, _, h1, h2⟩ := h
  exact ⟨(ne_of_none h1 e).symm, (ne_of_none h2 e).symm⟩
theorem DealAt.upd {H : Hp} {d l p : Addr} {o : HO} (h : DealAt H d l) (n : p ≠ d ∧ p ≠ l) : DealAt (upd H p o) d l := by
  obtain ⟨s, m, left, h1, h2, h3, h4, h5, h6⟩ := h
  exact ⟨s, m, left, h1, h2, h3, h4, by rw [upd_ne n.1.symm]; exact h5, by rw [upd_ne n.2.symm]; exact h6⟩
/-- what is new may change -/
theorem Kp.mut {d l p : Addr} {H H1 H2 : Hp} {o : HO} (a : Kp d l H H1) (b : Kp d l H H2) (n : H1 p = none) : Kp d l H (L2.upd H2 p o) := fun c u e h1 h2 => by
  rw [upd_ne (ne_of_none (a c u e h1 h2) n)]
  exact b c u e h1 h2
/-- a draw: any number from 0 to n - 1 -/
def spDraw : Sp := fun vs H Q _ => ∃ (d l : Addr) (n : Int), vs = [.ref d, .int n] ∧ DealAt H d l ∧ 1 ≤ n ∧ n < 1073741824 ∧
  ∀ (r : Int) (H' : Hp), 0 ≤ r → r < n → DealAt H' d l → Kp d l H H' → Q (.int r) H'
/-- the box made of a script -/
def spDeal (K : PySem.W.Frag) : Sp := fun vs H Q _ => ∃ (a : Addr) (ns : List Int) (b : Int), vs = [.ref a, .int b] ∧ SqL K H a (ns.map V.int) ∧ ns.length ≤ 100 ∧ 0 ≤ b ∧ b ≤ 63 ∧
  ∀ (d l : Addr) (H' : Hp), H d = none → H l = none → DealAt H' d l → Same H H' → Q (.ref d) H'
end Ak
/-! texts: a loop, a comprehension over a text's signs; a new object -/
namespace Ak
open PySem L2
/-- a loop over a text's signs; a comprehension over them -/
def for_sign {x : Str} {g : TG} {tb : TS} {D : Ends} {σ : L2.St} {H : Hp} (Pv : Nat → L2.St → Hp → Prop) (h0 : Pv 0 σ H)
    (hs : ∀ (i c : Nat) (τ : L2.St) (J : Hp), x.cps[i]? = some c → Pv i τ J → g (.str ⟨#[c]⟩) τ J (tb { D with nx := Pv (i + 1), ct := Pv (i + 1), bk := D.nx })) (hd : ∀ τ J, Pv x.cps.size τ J → D.nx τ J) :=
  for_it (walk_str (z := x)) Pv h0 (fun _ _ _ _ _ => True.intro) (fun i v τ J J' _ p y => by obtain ⟨rfl, c, hc, rfl⟩ := y; exact hs i c τ _ hc p) hd
def lc_sign {x : Str} {g : TG} {tt : TT} {te : TE} {vs : List Nat} {σ : L2.St} {H1 : Hp} {D : Addr} {Qd : Hp → Prop} (Pv : Nat → Hp → Prop) (h0 : Pv 0 (upd H1 D (.lst [])))
    (hs : ∀ (i c : Nat) (J : Hp), x.cps[i]? = some c → Pv i J → g (.str ⟨#[c]⟩) (wipe σ vs) J fun τ J2 => wipe τ vs = wipe σ vs ∧ tt τ J2 fun b J3 => if b = true then te τ J3 fun y J4 => ∃ got, J4 D = some (.lst got) ∧ got.length < sizeLine ∧ Pv (i + 1) (upd J4 D (.lst (got ++ [y]))) else Pv (i + 1) J3)
    (hd : ∀ J, Pv x.cps.size J → Qd J) :=
  lc_it (walk_str (z := x)) (g := g) (tt := tt) (te := te) (vs := vs) (σ := σ) Pv h0 (fun _ _ _ _ => True.intro) (fun i v J J' _ p y => by obtain ⟨rfl, c, hc, rfl⟩ := y; exact hs i c _ hc p) hd
theorem atI_in {α : Type} {xs : List α} {i : Int} (h0 : 0 ≤ i) (h1 : i < (xs.length : Int)) : ∃ v, atI xs i = some v ∧ v ∈ xs := by
  obtain ⟨j, rfl⟩ : ∃ j : Nat, i = (j : Int) := ⟨i.toNat, by omega⟩
  have hj : j < xs.length := by omega
  exact ⟨xs[j], atI_nat (List.getElem?_eq_getElem hj), List.getElem_mem hj⟩
theorem cutS_le (z : Str) (lo hi : Option Int) : (cutS z lo hi).length ≤ z.length := by
  show (cutS z lo hi).cps.size ≤ z.cps.size
  rw [← Array.length_toList, ← Array.length_toList]
  unfold cutS
  rw [List.length_take, List.length_drop]
  omega
theorem add_len (a b : Str) : (a ++ b).length = a.length + b.length := by
  show (a.cps ++ b.cps).size = a.cps.size + b.cps.size
  exact Array.size_append
theorem join_len : ∀ ys : List Str, (Str.join Str.empty ys).length = (ys.map (·.length)).sum
  | [] => rfl
  | [x] => by
    show x.length = _
    simp
  | x :: y :: r => by
    show ((x ++ Str.empty) ++ Str.join Str.empty (y :: r)).length = _
    rw [add_len, add_len, join_len (y :: r)]
    show x.length + 0 + _ = _
    simp
theorem sum_ones {ys : List Str} (h : ∀ y ∈ ys, y.length = 1) : (ys.map (·.length)).sum = ys.length := by
  induction ys with
  | nil => rfl
  | cons a r ih =>
    rw [List.map_cons, List.sum_cons, h a (by simp), ih fun y hy => h y (by simp [hy]), List.length_cons]
    omega
/-- all signs of t are in s -/
def onlyOf (t s : Str) : Bool := t.cps.toList.all fun c => decide (c ∈ s.cps.toList)
def spOnly : Sp := fun vs H Q _ => ∃ t s : Str, vs = [.str t, .str s] ∧ t.length ≤ 1000 ∧ ∀ H', Same H H' → Q (.bl (onlyOf t s)) H'
/-- a text in, a truth out -/
def spB (g : Str → Bool) : Sp := fun vs H Q _ => ∃ t : Str, vs = [.str t] ∧ t.length ≤ 1000 ∧ ∀ H', Same H H' → Q (.bl (g t)) H'
end Ak
/-! names and figures -/
namespace Ak
open PySem L2 TL
def lets : Str := "abcdefghijklmnopqrstuvwxyz"
def figs : Str := "0123456789"
def NNs : List Str := ["ask", "keeper", "def", "to", "note", "takes", "gives", "hears", "let", "be", "call", "keep", "go", "give", "tell", "if", "else", "case", "none", "more", "end", "empty", "put", "last", "num", "nums", "hold", "holds"]
def isName (t : Str) : Bool := (decide (1 ≤ t.length) && decide (t.length ≤ 8)) && (onlyOf t lets && !inV (.str t) (NNs.map V.str))
def isFigs (t : Str) : Bool := (decide (1 ≤ t.length) && decide (t.length ≤ 9)) && (onlyOf t figs && (decide (V.str t = .str "0") || !decide (V.str ⟨#[t.cps[0]?.getD 0]⟩ = .str "0")))
theorem len_sz {t : Str} (h : t.length ≤ 1000) : t.length ≤ sizeLine := Nat.le_of_lt (small1000 h)
theorem sz1000 {n : Nat} (h : n ≤ 1000) : n ≤ sizeLine := Nat.le_of_lt (small1000 h)
theorem nn_flat : (NNs.map V.str).all flatV = true := by decide +kernel
theorem lets_tl : lets.cps.toList = [97, 98, 99, 100, 101, 102, 103, 104, 105, 106, 107, 108, 109, 110, 111, 112, 113, 114, 115, 116, 117, 118, 119, 120, 121, 122] := by decide +kernel
theorem figs_tl : figs.cps.toList = [48, 49, 50, 51, 52, 53, 54, 55, 56, 57] := by decide +kernel
theorem mem_lets {c : Nat} : c ∈ lets.cps.toList ↔ 97 ≤ c ∧ c ≤ 122 := by
  rw [lets_tl]; simp only [List.mem_cons, List.not_mem_nil, or_false]; omega
theorem mem_figs {c : Nat} : c ∈ figs.cps.toList ↔ 48 ≤ c ∧ c ≤ 57 := by
  rw [figs_tl]; simp only [List.mem_cons, List.not_mem_nil, or_false]; omega
theorem name_parts {t : Str} (h : isName t = true) : 1 ≤ t.length ∧ t.length ≤ 8 ∧ (∀ c ∈ t.cps.toList, 97 ≤ c ∧ c ≤ 122) ∧ inV (.str t) (NNs.map V.str) = false := by
  unfold isName at h
  simp only [Bool.and_eq_true, decide_eq_true_eq, Bool.not_eq_true'] at h
  obtain ⟨⟨a, b⟩, c, d⟩ := h
  refine ⟨a, b, fun x hx => ?_, d⟩
  unfold onlyOf at c
  exact mem_lets.mp (of_decide_eq_true (List.all_eq_true.mp c x hx))
theorem name_not_figs {t : Str} (h : isName t = true) : isFigs t = false := by
  obtain ⟨a, _, b, _⟩ := name_parts h
  have e : onlyOf t figs = false := by
    unfold onlyOf
    rw [List.all_eq_false]
    have hz : 0 < t.cps.toList.length := by rw [Array.length_toList]; exact a
    refine ⟨t.cps.toList[0], List.getElem_mem hz, ?_⟩
    have q := b _ (List.getElem_mem hz)
    rw [decide_eq_true_eq, mem_figs]
    omega
  unfold isFigs
  rw [e, Bool.false_and, Bool.and_false]
/-- a number as texts write it -/
def fig (n : Int) : Str := Str.ofString (toString n)
theorem fig_tl (n : Nat) : (fig (n : Int)).cps.toList = numL n := tl_num n
theorem numL_hd : ∀ n : Nat, 0 < n → ∃ c r, numL n = c :: r ∧ 49 ≤ c ∧ c ≤ 57 := by
  intro n
  induction n using Nat.strongRecOn with
  | _ n ih =>
    intro h
    by_cases hn : n < 10
    · exact ⟨48 + n, [], by rw [numL_lt hn], by omega, by omega⟩
    · obtain ⟨c, r, e, h1, h2⟩ := ih (n / 10) (by omega) (by omega)
      exact ⟨c, r ++ [48 + n % 10], by rw [numL_step (by omega), e]; rfl, h1, h2⟩
theorem fig_ok {n : Int} (h0 : 0 ≤ n) (h1 : n ≤ 999999999) : isFigs (fig n) = true ∧ (fig n).length ≤ 9 := by
  obtain ⟨m, rfl⟩ := Int.eq_ofNat_of_zero_le h0
  have hl : (fig (m : Int)).length = (numL m).length := by
    show (fig (m : Int)).cps.size = _
    rw [← Array.length_toList, fig_tl]
  have l9 : (numL m).length ≤ 9 := numL_len (by decide) (by omega)
  have l1 : 1 ≤ (numL m).length := by
    have := numL_ne m
    cases e : numL m with
    | nil => exact absurd e this
    | cons c r => simp
  have on : onlyOf (fig (m : Int)) figs = true := by
    unfold onlyOf
    rw [List.all_eq_true]
    intro c hc
    rw [fig_tl] at hc
    exact decide_eq_true (mem_figs.mpr (numL_digits m c hc))
  refine ⟨?_, by rw [hl]; exact l9⟩
  unfold isFigs
  rw [on, decide_eq_true (show 1 ≤ (fig (m : Int)).length by rw [hl]; exact l1), decide_eq_true (show (fig (m : Int)).length ≤ 9 by rw [hl]; exact l9)]
  by_cases hm : m = 0
  · have e : decide (V.str (fig ((m : Nat) : Int)) = .str "0") = true := by rw [hm]; decide +kernel
    rw [e]; rfl
  · obtain ⟨c, r, e, c1, c2⟩ := numL_hd m (by omega)
    have g : (fig (m : Int)).cps[0]? = some c := by rw [← Array.getElem?_toList, fig_tl, e]; rfl
    rw [g]
    have e2 : decide (V.str (⟨#[c]⟩ : Str) = .str "0") = false := decide_eq_false fun z => by
      have hz : ("0" : Str) = ⟨#[48]⟩ := by decide +kernel
      rw [hz] at z
      injection z with z
      injection z with z
      have : c = 48 := by simpa using z
      omega
    rw [Option.getD_some, e2]
    simp
/-- a word's signs are neither a blank nor a line feed, and there is one -/
def Clean (w : Str) : Prop := 1 ≤ w.length ∧ w.length ≤ 9 ∧ 32 ∉ w.cps.toList ∧ 10 ∉ w.cps.toList
theorem name_clean {t : Str} (h : isName t = true) : Clean t := by
  obtain ⟨a, b, c, _⟩ := name_parts h
  exact ⟨a, by omega, fun z => by have := c _ z; omega, fun z => by have := c _ z; omega⟩
theorem fig_clean {n : Int} (h0 : 0 ≤ n) (h1 : n ≤ 999999999) : Clean (fig n) := by
  obtain ⟨f1, f2⟩ := fig_ok h0 h1
  obtain ⟨m, rfl⟩ := Int.eq_ofNat_of_zero_le h0
  refine ⟨?_, f2, ?_, ?_⟩
  · unfold isFigs at f1
    simp only [Bool.and_eq_true, decide_eq_true_eq] at f1
    exact f1.1.1
  · rw [fig_tl]; exact numL_free (by omega)
  · rw [fig_tl]; exact numL_free (by omega)
end Ak
/-! Programs as data: what a heap holds of them, their words, the heads that a reader gathers. -/
namespace Ak
open PySem L2

/-! ### data: numbers, texts, tuples of such -/
inductive D where
  | i (n : Int) | s (x : Str) | t (ds : List D)
mutual
def Rep (H : Hp) : D → V → Prop
  | .i n, v => v = .int n
  | .s x, v => v = .str x
  | .t ds, v => ∃ p vs, v = .ref p ∧ H p = some (.tup vs) ∧ Reps H ds vs
def Reps (H : Hp) : List D → List V → Prop
  | [], vs => vs = []
  | d :: ds, vs => ∃ v r, vs = v :: r ∧ Rep H d v ∧ Reps H ds r
end
/-- tuples stand for ever -/
def TupK (H H' : Hp) : Prop := ∀ p vs, H p = some (.tup vs) → H' p = some (.tup vs)
theorem TupK.refl (H : Hp) : TupK H H := fun _ _ e => e
theorem TupK.trans {H H1 H2 : Hp} (a : TupK H H1) (b : TupK H1 H2) : TupK H H2 := fun p vs e => b p vs (a p vs e)
theorem TupK.same {H H' : Hp} (a : Same H H') : TupK H H' := fun p vs e => a p _ e
theorem TupK.kp {d l : Addr} {H H' : Hp} (h : DealAt H d l) (a : Kp d l H H') : TupK H H' := fun p vs e => by
  have n := h.not e (fun _ z => nomatch z) (fun _ z => nomatch z)
  exact a p _ e n.1 n.2
mutual
theorem Rep.mono {H H' : Hp} (k : TupK H H') : ∀ {d : D} {v : V}, Rep H d v → Rep H' d v
  | .i n, v, h => h
  | .s x, v, h => h
  | .t ds, v, h => by
    obtain ⟨p, vs, e, hp, r⟩ := h
    exact ⟨p, vs, e, k p vs hp, Reps.mono k r⟩
theorem Reps.mono {H H' : Hp} (k : TupK H H') : ∀ {ds : List D} {vs : List V}, Reps H ds vs → Reps H' ds vs
  | [], vs, h => h
  | d :: ds, vs, h => by
    obtain ⟨v, r, e, h1, h2⟩ := h
    exact ⟨v, r, e, Rep.mono k h1, Reps.mono k h2⟩
end
theorem Reps.nil {H : Hp} : Reps H [] [] := rfl
theorem Reps.cons {H : Hp} {d : D} {ds : List D} {v : V} {vs : List V} (a : Rep H d v) (b : Reps H ds vs) : Reps H (d :: ds) (v :: vs) := ⟨v, vs, rfl, a, b⟩
theorem Reps.append {H : Hp} : ∀ {as bs : List D} {us vs : List V}, Reps H as us → Reps H bs vs → Reps H (as ++ bs) (us ++ vs)
  | [], _, _, _, h, g => by
    have e : _ = [] := h
    rw [e]; exact g
  | d :: ds, bs, us, vs, h, g => by
    obtain ⟨v, r, rfl, h1, h2⟩ := h
    exact Reps.cons h1 (Reps.append h2 g)
theorem Reps.len {H : Hp} : ∀ {ds : List D} {vs : List V}, Reps H ds vs → vs.length = ds.length
  | [], vs, h => by
    have e : vs = [] := h
    rw [e]; rfl
  | d :: ds, vs, h => by
    obtain ⟨v, r, rfl, h1, h2⟩ := h
    rw [List.length_cons, List.length_cons, Reps.len h2]
theorem Reps.get {H : Hp} : ∀ {ds : List D} {vs : List V} {j : Nat} {d : D}, Reps H ds vs → ds[j]? = some d → ∃ v, vs[j]? = some v ∧ Rep H d v
  | [], _, _, _, _, e => by simp at e
  | d :: ds, vs, 0, d', h, e => by
    obtain ⟨v, r, rfl, h1, h2⟩ := h
    have q : d = d' := by simpa using e
    exact ⟨v, rfl, q ▸ h1⟩
  | d :: ds, vs, j + 1, d', h, e => by
    obtain ⟨v, r, rfl, h1, h2⟩ := h
    exact Reps.get (j := j) h2 (by simpa using e)
theorem Reps.set {H : Hp} {d : D} {v : V} (a : Rep H d v) : ∀ {ds : List D} {vs : List V} (j : Nat), Reps H ds vs → Reps H (ds.set j d) (vs.set j v)
  | [], vs, j, h => by
    have e : vs = [] := h
    subst e
    exact h
  | x :: ds, vs, 0, h => by
    obtain ⟨y, r, rfl, h1, h2⟩ := h
    exact Reps.cons a h2
  | x :: ds, vs, j + 1, h => by
    obtain ⟨y, r, rfl, h1, h2⟩ := h
    exact Reps.cons h1 (Reps.set a j h2)
theorem Reps.snoc {H : Hp} {ds : List D} {d : D} {vs : List V} (h : Reps H (ds ++ [d]) vs) : ∃ us v, vs = us ++ [v] ∧ Reps H ds us ∧ Rep H d v := by
  induction ds generalizing vs with
  | nil =>
    obtain ⟨v, r, rfl, h1, h2⟩ := h
    have e : r = [] := h2
    exact ⟨[], v, by rw [e]; rfl, rfl, h1⟩
  | cons x ds ih =>
    obtain ⟨v, r, rfl, h1, h2⟩ := h
    obtain ⟨us, w, rfl, g1, g2⟩ := ih h2
    exact ⟨v :: us, w, rfl, Reps.cons h1 g1, g2⟩
theorem Rep.tup {H : Hp} {ds : List D} {p : Addr} {vs : List V} (e : H p = some (.tup vs)) (r : Reps H ds vs) : Rep H (.t ds) (.ref p) := ⟨p, vs, rfl, e, r⟩
/-- a new tuple of things that stand -/
theorem Rep.new {H : Hp} {ds : List D} {p : Addr} {vs : List V} (n : H p = none) (r : Reps H ds vs) : Rep (upd H p (.tup vs)) (.t ds) (.ref p) :=
  ⟨p, vs, rfl, upd_same, r.mono (TupK.same (Same.new n))⟩

/-! ### atoms, kinds, bodies -/
inductive Atom where
  | nm (x : Str) | nu (n : Int)
def Atom.d : Atom → D | .nm x => .s x | .nu n => .i n
def Atom.v : Atom → V | .nm x => .str x | .nu n => .int n
def Atom.w : Atom → Str | .nm x => x | .nu n => fig n
theorem Atom.rep {H : Hp} (a : Atom) : Rep H a.d a.v := by cases a <;> rfl
inductive Kd where
  | num | nums | hold (k q : Str) | holds (k q : Str)
def Kd.w : Kd → List Str | .num => ["num"] | .nums => ["nums"] | .hold k q => ["hold", k, q] | .holds k q => ["holds", k, q]
def Kd.d (k : Kd) : D := .t (k.w.map D.s)
/-- what stands behind the be of a let -/
inductive Made where
  | same (a : Atom) | sum (s : Str) (a b : Atom) | empty (k : Kd) | put (a r : Atom) | last (r a : Atom) | call (f : Str) (args : List Atom) | ask (q : Str) (a : Atom)
  | keep (k : Str) (a : Atom) (f : Str) (args : List Atom) | go (h a n : Atom)
def argsD (args : List Atom) : D := .t (args.map Atom.d)
def Made.hd (x : Str) : Made → List D
  | .same a => [.s "let", .s x, a.d]
  | .sum s a b => [.s "sum", .s x, .s s, a.d, b.d]
  | .empty k => [.s "empty", .s x, k.d]
  | .put a r => [.s "put", .s x, a.d, r.d]
  | .last r a => [.s "last", .s x, r.d, a.d]
  | .call f args => [.s "call", .s x, .s f, argsD args]
  | .ask q a => [.s "ask", .s x, .s q, a.d]
  | .keep k a f args => [.s "keep", .s x, .s k, a.d, .s f, argsD args]
  | .go h a n => [.s "go", .s x, h.d, a.d, n.d]
def Made.w : Made → List Str
  | .same a => [a.w]
  | .sum s a b => [a.w, s, b.w]
  | .empty k => "empty" :: k.w
  | .put a r => "put" :: a.w :: r.w :: []
  | .last r a => "last" :: r.w :: a.w :: []
  | .call f args => "call" :: f :: args.map Atom.w
  | .ask q a => "ask" :: q :: a.w :: []
  | .keep k a f args => "keep" :: k :: a.w :: f :: args.map Atom.w
  | .go h a n => "go" :: h.w :: a.w :: n.w :: []
inductive Body where
  | give (a : Atom) | tell (a : Atom) (b : Body) | ite (a : Atom) (b c : Body) | case (r : Atom) (b : Body) (x y : Str) (c : Body) | bind (x : Str) (m : Made) (b : Body)
def Body.d : Body → D
  | .give a => .t [.s "give", a.d]
  | .tell a b => .t [.s "tell", a.d, b.d]
  | .ite a b c => .t [.s "if", a.d, b.d, c.d]
  | .case r b x y c => .t [.s "case", r.d, b.d, .s x, .s y, c.d]
  | .bind x m b => .t (m.hd x ++ [b.d])
def Body.w : Body → List Str
  | .give a => "give" :: a.w :: []
  | .tell a b => "tell" :: a.w :: ";" :: b.w
  | .ite a b c => "if" :: a.w :: ":" :: (b.w ++ (("else" : Str) :: (c.w ++ [("end" : Str)])))
  | .case r b x y c => "case" :: r.w :: "none" :: (b.w ++ (("more" : Str) :: x :: y :: (":" : Str) :: (c.w ++ [("end" : Str)])))
  | .bind x m b => "let" :: x :: "be" :: (m.w ++ ((";" : Str) :: b.w))
/-- the heads of its pieces, in order -/
def Body.hs : Body → List D
  | .give a => [.t [.s "give", a.d]]
  | .tell a b => .t [.s "tell", a.d] :: b.hs
  | .ite a b c => .t [.s "if", a.d] :: (b.hs ++ c.hs)
  | .case r b x y c => .t [.s "case", r.d, .s x, .s y] :: (b.hs ++ c.hs)
  | .bind x m b => .t (m.hd x) :: b.hs
def Body.size : Body → Nat
  | .give _ => 1
  | .tell _ b => b.size + 1
  | .ite _ b c => b.size + c.size + 1
  | .case _ b _ _ c => b.size + c.size + 1
  | .bind _ _ b => b.size + 1

/-! ### what is a program's: names and numbers within their forms -/
def Atom.Ok : Atom → Prop | .nm x => isName x = true | .nu n => 0 ≤ n ∧ n ≤ 999999999
def Kd.Ok : Kd → Prop | .num => True | .nums => True | .hold k q => isName k = true ∧ isName q = true | .holds k q => isName k = true ∧ isName q = true
def Kd.row : Kd → Prop | .nums => True | .holds _ _ => True | _ => False
def signs : List Str := ["+", "-", "*", "<", "="]
def Made.Ok : Made → Prop
  | .same a => a.Ok
  | .sum s a b => s ∈ signs ∧ a.Ok ∧ b.Ok
  | .empty k => k.Ok ∧ k.row
  | .put a r => a.Ok ∧ r.Ok
  | .last r a => r.Ok ∧ a.Ok
  | .call f args => isName f = true ∧ ∀ a ∈ args, a.Ok
  | .ask q a => isName q = true ∧ a.Ok
  | .keep k a f args => isName k = true ∧ a.Ok ∧ isName f = true ∧ ∀ a ∈ args, a.Ok
  | .go h a n => h.Ok ∧ a.Ok ∧ n.Ok
def Body.Ok : Body → Prop
  | .give a => a.Ok
  | .tell a b => a.Ok ∧ b.Ok
  | .ite a b c => a.Ok ∧ b.Ok ∧ c.Ok
  | .case r b x y c => r.Ok ∧ b.Ok ∧ isName x = true ∧ isName y = true ∧ c.Ok
  | .bind x m b => isName x = true ∧ m.Ok ∧ b.Ok

/-! ### words are clean -/
def fixed : List Str := (["give", "tell", "if", "else", "case", "none", "more", "let", "be", "end", "empty", "put", "last", "call", "ask", "keep", "go", "num", "nums", "hold", "holds"] : List Str) ++ ([";", ":", "+", "-", "*", "<", "=", "def", "to", "keeper", "note", "takes", "gives", "hears"] : List Str)
theorem fixed_clean : ∀ w ∈ fixed, Clean w := by
  show ∀ w ∈ fixed, 1 ≤ w.length ∧ w.length ≤ 9 ∧ 32 ∉ w.cps.toList ∧ 10 ∉ w.cps.toList
  decide +kernel
theorem Atom.clean {a : Atom} (h : a.Ok) : Clean a.w := by
  cases a with
  | nm x => exact name_clean h
  | nu n => exact fig_clean h.1 h.2
theorem fx {w : Str} (h : w ∈ fixed) : Clean w := fixed_clean w h
theorem Kd.clean {k : Kd} (h : k.Ok) : ∀ w ∈ k.w, Clean w := by
  cases k with
  | num => intro w hw; rw [List.mem_singleton.mp hw]; exact fx (by decide +kernel)
  | nums => intro w hw; rw [List.mem_singleton.mp hw]; exact fx (by decide +kernel)
  | hold k q =>
    intro w hw
    simp only [Kd.w, List.mem_cons, List.not_mem_nil, or_false] at hw
    rcases hw with rfl | rfl | rfl
    · exact fx (by decide +kernel)
    · exact name_clean h.1
    · exact name_clean h.2
  | holds k q =>
    intro w hw
    simp only [Kd.w, List.mem_cons, List.not_mem_nil, or_false] at hw
    rcases hw with rfl | rfl | rfl
    · exact fx (by decide +kernel)
    · exact name_clean h.1
    · exact name_clean h.2
theorem args_clean {as : List Atom} (h : ∀ a ∈ as, a.Ok) : ∀ w ∈ as.map Atom.w, Clean w := fun w hw => by
  obtain ⟨a, ha, rfl⟩ := List.mem_map.mp hw
  exact Atom.clean (h a ha)
theorem signs_fixed : ∀ s ∈ signs, s ∈ fixed := by decide +kernel
theorem Made.clean {m : Made} (h : m.Ok) : ∀ w ∈ m.w, Clean w := by
  cases m with
  | same a => intro w hw; rw [List.mem_singleton.mp hw]; exact Atom.clean h
  | sum s a b =>
    intro w hw
    simp only [Made.w, List.mem_cons, List.not_mem_nil, or_false] at hw
    rcases hw with rfl | rfl | rfl
    · exact Atom.clean h.2.1
    · exact fx (signs_fixed _ h.1)
    · exact Atom.clean h.2.2
  | empty k =>
    intro w hw
    rcases List.mem_cons.mp hw with rfl | hw
    · exact fx (by decide +kernel)
    · exact Kd.clean h.1 w hw
  | put a r =>
    intro w hw
    simp only [Made.w, List.mem_cons, List.not_mem_nil, or_false] at hw
    rcases hw with rfl | rfl | rfl
    · exact fx (by decide +kernel)
    · exact Atom.clean h.1
    · exact Atom.clean h.2
  | last r a =>
    intro w hw
    simp only [Made.w, List.mem_cons, List.not_mem_nil, or_false] at hw
    rcases hw with rfl | rfl | rfl
    · exact fx (by decide +kernel)
    · exact Atom.clean h.1
    · exact Atom.clean h.2
  | call f args =>
    intro w hw
    simp only [Made.w, List.mem_cons] at hw
    rcases hw with rfl | rfl | hw
    · exact fx (by decide +kernel)
    · exact name_clean h.1
    · exact args_clean h.2 w hw
  | ask q a =>
    intro w hw
    simp only [Made.w, List.mem_cons, List.not_mem_nil, or_false] at hw
    rcases hw with rfl | rfl | rfl
    · exact fx (by decide +kernel)
    · exact name_clean h.1
    · exact Atom.clean h.2
  | keep k a f args =>
    intro w hw
    simp only [Made.w, List.mem_cons] at hw
    rcases hw with rfl | rfl | rfl | rfl | hw
    · exact fx (by decide +kernel)
    · exact name_clean h.1
    · exact Atom.clean h.2.1
    · exact name_clean h.2.2.1
    · exact args_clean h.2.2.2 w hw
  | go a b n =>
    intro w hw
    simp only [Made.w, List.mem_cons, List.not_mem_nil, or_false] at hw
    rcases hw with rfl | rfl | rfl | rfl
    · exact fx (by decide +kernel)
    · exact Atom.clean h.1
    · exact Atom.clean h.2.1
    · exact Atom.clean h.2.2
theorem Body.clean : ∀ {b : Body}, b.Ok → ∀ w ∈ b.w, Clean w
  | .give a, h, w, hw => by
    simp only [Body.w, List.mem_cons, List.not_mem_nil, or_false] at hw
    rcases hw with rfl | rfl
    · exact fx (by decide +kernel)
    · exact Atom.clean h
  | .tell a b, h, w, hw => by
    simp only [Body.w, List.mem_cons] at hw
    rcases hw with rfl | rfl | rfl | hw
    · exact fx (by decide +kernel)
    · exact Atom.clean h.1
    · exact fx (by decide +kernel)
    · exact Body.clean h.2 w hw
  | .ite a b c, h, w, hw => by
    simp only [Body.w, List.mem_cons, List.mem_append, List.not_mem_nil, or_false] at hw
    rcases hw with rfl | rfl | rfl | hw | rfl | hw | rfl
    · exact fx (by decide +kernel)
    · exact Atom.clean h.1
    · exact fx (by decide +kernel)
    · exact Body.clean h.2.1 w hw
    · exact fx (by decide +kernel)
    · exact Body.clean h.2.2 w hw
    · exact fx (by decide +kernel)
  | .case r b x y c, h, w, hw => by
    simp only [Body.w, List.mem_cons, List.mem_append, List.not_mem_nil, or_false] at hw
    rcases hw with rfl | rfl | rfl | hw | rfl | rfl | rfl | rfl | hw | rfl
    · exact fx (by decide +kernel)
    · exact Atom.clean h.1
    · exact fx (by decide +kernel)
    · exact Body.clean h.2.1 w hw
    · exact fx (by decide +kernel)
    · exact name_clean h.2.2.1
    · exact name_clean h.2.2.2.1
    · exact fx (by decide +kernel)
    · exact Body.clean h.2.2.2.2 w hw
    · exact fx (by decide +kernel)
  | .bind x m b, h, w, hw => by
    simp only [Body.w, List.mem_cons, List.mem_append] at hw
    rcases hw with rfl | rfl | rfl | hw | rfl | hw
    · exact fx (by decide +kernel)
    · exact name_clean h.1
    · exact fx (by decide +kernel)
    · exact Made.clean h.2.1 w hw
    · exact fx (by decide +kernel)
    · exact Body.clean h.2.2 w hw

/-! ### the reader's stack: ifs and cases that aren't closed, the innermost first -/
structure Frame where
  at_ : Nat
  /-- its second body begun -/
  second : Bool
  /-- of a case its names -/
  names : Option (Str × Str)
  a : Atom
  c : Body
def armH (names : Option (Str × Str)) (a : Atom) : List D := match names with | none => [.s "if", a.d] | some _ => [.s "case", a.d]
def armW : Option (Str × Str) → List Str | none => [("else" : Str)] | some (x, y) => [("more" : Str), x, y, (":" : Str)]
def armD (names : Option (Str × Str)) (a : Atom) : List D := match names with | none => [.s "if", a.d] | some (x, y) => [.s "case", a.d, .s x, .s y]
def Frame.w (f : Frame) : List Str := if f.second = true then [("end" : Str)] else armW f.names ++ (f.c.w ++ [("end" : Str)])
def framesW : List Frame → List Str
  | [] => []
  | f :: r => f.w ++ framesW r
/-- the heads when a second body begins -/
def armHs (h : List D) (f : Frame) : List D := h.set f.at_ (.t (armD f.names f.a))
def Frame.Ok (f : Frame) : Prop := f.c.Ok ∧ ∀ x y, f.names = some (x, y) → isName x = true ∧ isName y = true
/-- what an arm that isn't begun wants of the heads -/
def Frame.Fit (h : List D) (f : Frame) : Prop := h[f.at_]? = some (.t (armH f.names f.a))
/-- behind a give: the ifs and cases that end here -/
inductive After : List D → List Frame → List D → List Frame → Option Body → Prop
  | done (h : List D) : After h [] h [] none
  | up {h h' : List D} {f : Frame} {r fs : List Frame} {o : Option Body} (s : f.second = true) (n : After h r h' fs o) : After h (f :: r) h' fs o
  | on {h : List D} {f : Frame} {r : List Frame} (s : f.second = false) (fit : f.Fit h) (ok : f.Ok) : After h (f :: r) (armHs h f) ({ f with second := true } :: r) (some f.c)
/-- the heads that stand at the end, those of the body that is read being there -/
def tot : List D → List Frame → List D
  | h, [] => h
  | h, f :: r => if f.second = true then tot h r else tot (armHs h f ++ f.c.hs) r
def totO (h' : List D) (fs' : List Frame) : Option Body → List D | none => h' | some c => tot (h' ++ c.hs) fs'
theorem After.tot {h h' : List D} {fs fs' : List Frame} {o : Option Body} (a : After h fs h' fs' o) : Ak.tot h fs = totO h' fs' o := by
  induction a with
  | done => rfl
  | up s n ih => rw [Ak.tot, if_pos s]; exact ih
  | on s fit ok =>
    rw [Ak.tot, if_neg (by rw [s]; decide)]
    show _ = Ak.tot _ (_ :: _)
    rw [Ak.tot, if_pos rfl]
structure FramesOk (h : List D) (fs : List Frame) : Prop where
  lt : ∀ f ∈ fs, f.at_ < h.length
  ok : ∀ f ∈ fs, f.second = false → f.Ok ∧ f.Fit h
  pw : fs.Pairwise fun f g => g.at_ < f.at_
theorem FramesOk.nil (h : List D) : FramesOk h [] := ⟨(fun _ z => nomatch z), (fun _ z => nomatch z), List.Pairwise.nil⟩
theorem FramesOk.tail {h : List D} {f : Frame} {r : List Frame} (x : FramesOk h (f :: r)) : FramesOk h r :=
  ⟨fun g m => x.lt g (by simp [m]), fun g m => x.ok g (by simp [m]), (List.pairwise_cons.mp x.pw).2⟩
theorem FramesOk.app {h : List D} {fs : List Frame} (x : FramesOk h fs) (t : List D) : FramesOk (h ++ t) fs := by
  refine ⟨fun g m => ?_, fun g m s => ⟨(x.ok g m s).1, ?_⟩, x.pw⟩
  · rw [List.length_append]; have := x.lt g m; omega
  · show (h ++ t)[g.at_]? = _
    rw [List.getElem?_append_left (x.lt g m)]
    exact (x.ok g m s).2
theorem After.exists {h : List D} : ∀ {fs : List Frame}, FramesOk h fs → ∃ h' fs' o, After h fs h' fs' o
  | [], _ => ⟨h, [], none, .done h⟩
  | f :: r, x => by
    cases s : f.second with
    | true =>
      obtain ⟨h', fs', o, a⟩ := After.exists x.tail
      exact ⟨h', fs', o, .up s a⟩
    | false =>
      have q := x.ok f (by simp) s
      exact ⟨_, _, _, .on s q.2 q.1⟩
theorem After.frames {h h' : List D} {fs fs' : List Frame} {o : Option Body} (a : After h fs h' fs' o) (x : FramesOk h fs) : FramesOk h' fs' ∧ (∀ c, o = some c → c.Ok) ∧ h'.length = h.length ∧ fs'.length ≤ fs.length := by
  induction a with
  | done => exact ⟨x, (fun _ z => nomatch z), rfl, Nat.le_refl _⟩
  | up s n ih =>
    obtain ⟨a, b, c, d⟩ := ih x.tail
    exact ⟨a, b, c, by rw [List.length_cons]; omega⟩
  | @on f r s fit ok =>
    have pw := List.pairwise_cons.mp x.pw
    have l : (armHs h f).length = h.length := by unfold armHs; rw [List.length_set]
    refine ⟨⟨fun g m => ?_, fun g m e => ?_, List.pairwise_cons.mpr ⟨pw.1, pw.2⟩⟩, fun c e => (Option.some.inj e) ▸ ok.1, l, Nat.le_refl _⟩
    · rw [l]
      rcases List.mem_cons.mp m with rfl | m
      · exact x.lt f (by simp)
      · exact x.lt g (by simp [m])
    · rcases List.mem_cons.mp m with rfl | m
      · exact nomatch e
      · obtain ⟨o1, o2⟩ := x.ok g (by simp [m]) e
        refine ⟨o1, ?_⟩
        show (h.set f.at_ _)[g.at_]? = _
        rw [List.getElem?_set_ne (Nat.ne_of_gt (pw.1 g m))]
        exact o2
/-! ### bodies made of heads, from behind -/
/-- the piece of the head h, the last of st being the bodies already made: st0 of them are left -/
inductive Step : List D → List D → List D → D → Prop
  | give (a : Atom) (st : List D) : Step [.s "give", a.d] st st (Body.give a).d
  | tell (a : Atom) (b : D) (st : List D) : Step [.s "tell", a.d] (st ++ [b]) st (.t [.s "tell", a.d, b])
  | ite (a : Atom) (b c : D) (st : List D) : Step [.s "if", a.d] (st ++ [c] ++ [b]) st (.t [.s "if", a.d, b, c])
  | case (r : Atom) (x y : Str) (b c : D) (st : List D) : Step [.s "case", r.d, .s x, .s y] (st ++ [c] ++ [b]) st (.t [.s "case", r.d, b, .s x, .s y, c])
  | bind (x : Str) (m : Made) (b : D) (st : List D) : Step (m.hd x) (st ++ [b]) st (.t (m.hd x ++ [b]))
/-- heads gone through from behind -/
inductive Steps : List D → List D → List D → Prop
  | nil (st : List D) : Steps [] st st
  | snoc {hs : List D} {h st st1 st2 : List D} {d : D} (a : Step h st st1 d) (b : Steps hs (st1 ++ [d]) st2) : Steps (hs ++ [.t h]) st st2
theorem Steps.app {as bs st st1 st2 : List D} (a : Steps bs st st1) (b : Steps as st1 st2) : Steps (as ++ bs) st st2 := by
  induction a with
  | nil st => rw [List.append_nil]; exact b
  | snoc s r ih => rw [← List.append_assoc]; exact .snoc s (ih b)
theorem Steps.one {h st st1 : List D} {d : D} (a : Step h st st1 d) : Steps [.t h] st (st1 ++ [d]) := Steps.snoc (hs := []) a (.nil _)
theorem Body.steps : ∀ (b : Body) (st : List D), Steps b.hs st (st ++ [b.d])
  | .give a, st => Steps.one (.give a st)
  | .tell a b, st => Steps.app (as := [.t [.s "tell", a.d]]) (b.steps st) (.one (.tell a b.d st))
  | .ite a b c, st => Steps.app (as := [.t [.s "if", a.d]]) (Steps.app (c.steps st) (b.steps _)) (.one (.ite a b.d c.d st))
  | .case r b x y c, st => Steps.app (as := [.t [.s "case", r.d, .s x, .s y]]) (Steps.app (c.steps st) (b.steps _)) (.one (.case r x y b.d c.d st))
  | .bind x m b, st => Steps.app (as := [.t (m.hd x)]) (b.steps st) (.one (.bind x m b.d st))
theorem Body.hs_len : ∀ b : Body, b.hs.length ≤ b.w.length
  | .give a => by simp [Body.hs, Body.w]
  | .tell a b => by have := b.hs_len; simp [Body.hs, Body.w]; omega
  | .ite a b c => by have := b.hs_len; have := c.hs_len; simp [Body.hs, Body.w]; omega
  | .case r b x y c => by have := b.hs_len; have := c.hs_len; simp [Body.hs, Body.w]; omega
  | .bind x m b => by have := b.hs_len; simp [Body.hs, Body.w]; omega
/-! ### a body's first piece, and what is left to read behind it -/
def Body.hw : Body → List Str
  | .give a => "give" :: a.w :: []
  | .tell a _ => "tell" :: a.w :: ";" :: []
  | .ite a _ _ => "if" :: a.w :: ":" :: []
  | .case r _ _ _ _ => "case" :: r.w :: "none" :: []
  | .bind x m _ => "let" :: x :: "be" :: (m.w ++ [(";" : Str)])
def Body.tw : Body → List Str
  | .give _ => []
  | .tell _ b => b.w
  | .ite _ b c => b.w ++ (("else" : Str) :: (c.w ++ [("end" : Str)]))
  | .case _ b x y c => b.w ++ (("more" : Str) :: x :: y :: (":" : Str) :: (c.w ++ [("end" : Str)]))
  | .bind _ _ b => b.w
theorem Body.w_eq (b : Body) : b.w = b.hw ++ b.tw := by
  cases b <;> simp [Body.w, Body.hw, Body.tw]
def Body.h1 : Body → List D
  | .give a => [.s "give", a.d]
  | .tell a _ => [.s "tell", a.d]
  | .ite a _ _ => [.s "if", a.d]
  | .case r _ _ _ _ => [.s "case", r.d]
  | .bind x m _ => m.hd x
/-- the open ifs and cases behind its first piece -/
def Body.nextF (n : Nat) (fs : List Frame) : Body → List Frame
  | .ite a _ c => ⟨n, false, none, a, c⟩ :: fs
  | .case r _ x y c => ⟨n, false, some (x, y), r, c⟩ :: fs
  | _ => fs
def Body.next : Body → Option Body
  | .give _ => none
  | .tell _ b => some b
  | .ite _ b _ => some b
  | .case _ b _ _ _ => some b
  | .bind _ _ b => some b
theorem set_mid (A : List D) (x y : D) (B : List D) : (A ++ [x] ++ B).set A.length y = A ++ [y] ++ B := by
  rw [List.append_assoc, List.set_append_right _ _ (Nat.le_refl _), Nat.sub_self, List.append_assoc]
  rfl
theorem Body.next_tot {b b' : Body} (hs : List D) (fs : List Frame) (h : b.next = some b') : tot (hs ++ [.t b.h1] ++ b'.hs) (b.nextF hs.length fs) = tot (hs ++ b.hs) fs := by
  cases b with
  | give a => exact nomatch h
  | tell a b1 => cases h; simp [Body.hs, Body.h1, Body.nextF]
  | bind x m b1 => cases h; simp [Body.hs, Body.h1, Body.nextF]
  | ite a b1 c1 =>
    cases h
    show tot _ (⟨hs.length, false, none, a, c1⟩ :: fs) = _
    rw [tot, if_neg Bool.false_ne_true]
    show tot ((hs ++ [D.t [.s "if", a.d]] ++ b'.hs).set hs.length (.t [.s "if", a.d]) ++ c1.hs) fs = _
    rw [set_mid]
    simp [Body.hs]
  | case r b1 x y c1 =>
    cases h
    show tot _ (⟨hs.length, false, some (x, y), r, c1⟩ :: fs) = _
    rw [tot, if_neg Bool.false_ne_true]
    show tot ((hs ++ [D.t [.s "case", r.d]] ++ b'.hs).set hs.length (.t [.s "case", r.d, .s x, .s y]) ++ c1.hs) fs = _
    rw [set_mid]
    simp [Body.hs]
theorem Body.next_words {b b' : Body} (n : Nat) (fs : List Frame) (h : b.next = some b') : b.tw ++ framesW fs = b'.w ++ framesW (b.nextF n fs) := by
  cases b with
  | give a => exact nomatch h
  | tell a b1 => cases h; rfl
  | bind x m b1 => cases h; rfl
  | ite a b1 c1 => cases h; simp [Body.tw, Body.nextF, framesW, Frame.w, armW]
  | case r b1 x y c1 => cases h; simp [Body.tw, Body.nextF, framesW, Frame.w, armW]
theorem Body.next_ok {b b' : Body} (h : b.next = some b') (ok : b.Ok) : b'.Ok := by
  cases b with
  | give a => exact nomatch h
  | tell a b1 => cases h; exact ok.2
  | bind x m b1 => cases h; exact ok.2.2
  | ite a b1 c1 => cases h; exact ok.2.1
  | case r b1 x y c1 => cases h; exact ok.2.1
theorem Body.next_frames {b : Body} {hs : List D} {fs : List Frame} (ok : b.Ok) (x : FramesOk hs fs) : FramesOk (hs ++ [.t b.h1]) (b.nextF hs.length fs) := by
  have y := x.app [.t b.h1]
  have push : ∀ f : Frame, f.at_ = hs.length → f.Ok → D.t b.h1 = .t (armH f.names f.a) → FramesOk (hs ++ [.t b.h1]) (f :: fs) := fun f e o q => by
    refine ⟨fun g m => ?_, fun g m s => ?_, List.pairwise_cons.mpr ⟨fun g m => ?_, y.pw⟩⟩
    · rcases List.mem_cons.mp m with rfl | m
      · rw [e, List.length_append]; show _ < _ + 1; omega
      · exact y.lt g m
    · rcases List.mem_cons.mp m with rfl | m
      · refine ⟨o, ?_⟩
        show (hs ++ [D.t b.h1])[g.at_]? = _
        rw [e, List.getElem?_append_right (Nat.le_refl _), Nat.sub_self, q]; rfl
      · exact y.ok g m s
    · rw [e]; exact x.lt g m
  cases b with
  | give a => exact y
  | tell a b1 => exact y
  | bind z m b1 => exact y
  | ite a b1 c1 => exact push _ rfl ⟨ok.2.2, fun _ _ z => nomatch z⟩ rfl
  | case r b1 u v c1 => exact push _ rfl ⟨ok.2.2.2.2, fun p q z => by cases z; exact ⟨ok.2.2.1, ok.2.2.2.1⟩⟩ rfl
theorem Body.hw_len (b : Body) : 2 ≤ b.hw.length := by cases b <;> simp [Body.hw]
def Body.arm : Body → Bool | .ite _ _ _ => true | .case _ _ _ _ _ => true | _ => false
theorem Made.hd_word (x : Str) (m : Made) : ∃ w0 t, m.hd x = .s w0 :: t ∧ inV (.str w0) [V.str "if", V.str "case"] = false ∧ decide (V.str w0 = V.str "give") = false := by
  cases m <;> exact ⟨_, _, rfl, by decide +kernel, by decide +kernel⟩
theorem Body.h1_hd (b : Body) : ∃ w0 t, b.h1 = .s w0 :: t ∧ inV (.str w0) [V.str "if", V.str "case"] = b.arm ∧ decide (V.str w0 = V.str "give") = b.next.isNone := by
  cases b with
  | bind x m b1 =>
    obtain ⟨w0, t, e, a, c⟩ := Made.hd_word x m
    exact ⟨w0, t, e, a, c⟩
  | give a => exact ⟨_, _, rfl, (by decide +kernel : inV (.str "give") [V.str "if", V.str "case"] = false), (by decide +kernel : decide (V.str "give" = V.str "give") = true)⟩
  | tell a b1 => exact ⟨_, _, rfl, (by decide +kernel : inV (.str "tell") [V.str "if", V.str "case"] = false), (by decide +kernel : decide (V.str "tell" = V.str "give") = false)⟩
  | ite a b1 c1 => exact ⟨_, _, rfl, (by decide +kernel : inV (.str "if") [V.str "if", V.str "case"] = true), (by decide +kernel : decide (V.str "if" = V.str "give") = false)⟩
  | case r b1 x y c1 => exact ⟨_, _, rfl, (by decide +kernel : inV (.str "case") [V.str "if", V.str "case"] = true), (by decide +kernel : decide (V.str "case" = V.str "give") = false)⟩
theorem Body.nextF_no {b : Body} (h : b.arm = false) (n : Nat) (fs : List Frame) : b.nextF n fs = fs := by
  cases b <;> first | rfl | exact nomatch h
theorem Body.nextF_yes {b : Body} (h : b.arm = true) (n : Nat) (fs : List Frame) : ∃ f : Frame, b.nextF n fs = f :: fs ∧ f.at_ = n ∧ f.second = false := by
  cases b <;> first | exact ⟨_, rfl, rfl, rfl⟩ | exact nomatch h
theorem Body.give_hs {b : Body} (h : b.next = none) : b.hs = [.t b.h1] ∧ b.tw = [] ∧ b.arm = false := by
  cases b <;> first | exact ⟨rfl, rfl, rfl⟩ | exact nomatch h
end Ak
/-! zip of three lists, as a loop or a comprehension goes through it -/
namespace Ak
open PySem L2 PySem.Spec PyProof.Rows
/-- the three lists as they stand at each turn; what is handed out is a new tuple -/
def Itz3 (K : PySem.W.Frag) (a b c : Addr) : It :=
  ⟨fun i H => ∃ (xs ys zs : List V) (x y u : V), (SqL K H a xs ∧ SqL K H b ys ∧ SqL K H c zs) ∧ xs[i]? = some x ∧ ys[i]? = some y ∧ zs[i]? = some u,
    fun i H v H' => ∃ T x y u, v = .ref T ∧ H T = none ∧ H' = upd H T (.tup [x, y, u]) ∧ (∀ xs, SqL K H a xs → xs[i]? = some x) ∧ (∀ ys, SqL K H b ys → ys[i]? = some y) ∧ ∀ zs, SqL K H c zs → zs[i]? = some u,
    fun i H => ∃ xs ys zs : List V, (SqL K H a xs ∧ SqL K H b ys ∧ SqL K H c zs) ∧ (i ≤ xs.length ∧ i ≤ ys.length ∧ i ≤ zs.length) ∧ (i = xs.length ∨ i = ys.length ∨ i = zs.length)⟩
theorem turn_zip3 {P : Program} {w : World} {K : PySem.W.Frag} {elts : List Expr} {kk : Nat} {tpos : Pos} {a b c z TI TO i1 i2 i3 : Addr} (D : ZipSep3 z TI TO i1 i2 i3 [i1, a] [i2, b] [i3, c]) :
    Turn P w K (.Tuple elts kk tpos) (Itz3 K a b c) [z, TI, TO, i1, i2, i3] z
      (fun i h => IsZip h z TI TO .none ∧ IsTupOf3 h TI (.ref i1) (.ref i2) (.ref i3) ∧ (∃ x y u, IsTupOf3 h TO x y u) ∧ h.IsListIter i1 a i ∧ h.IsListIter i2 b i ∧ h.IsListIter i3 c i) where
  mem := by simp
  obj := fun i h st d hd => by
    obtain ⟨hz, hTI, ⟨x, y, u, hTO⟩, ⟨o1, e1, _, d1⟩, ⟨o2, e2, _, d2⟩, ⟨o3, e3, _, d3⟩⟩ := st
    have e' : d = z ∨ d = TI ∨ d = TO ∨ d = i1 ∨ d = i2 ∨ d = i3 := by simpa using hd
    rcases e' with q | q | q | q | q | q
    · subst q; exact ⟨_, hz, fun v q => nomatch q⟩
    · subst q; exact ⟨_, hTI, fun v q => nomatch q⟩
    · subst q; exact ⟨_, hTO, fun v q => nomatch q⟩
    · subst q; exact ⟨o1, e1, fun v q => by rw [d1] at q; cases q⟩
    · subst q; exact ⟨o2, e2, fun v q => by rw [d2] at q; cases q⟩
    · subst q; exact ⟨o3, e3, fun v q => by rw [d3] at q; cases q⟩
  keep := fun i h h' st k => by
    obtain ⟨hz, hTI, ⟨x, y, u, hTO⟩, h1, h2, h3⟩ := st
    exact ⟨k z (by simp) _ hz, k TI (by simp) _ hTI, ⟨x, y, u, k TO (by simp) _ hTO⟩, h1.at fun o q => k i1 (by simp) o q, h2.at fun o q => k i2 (by simp) o q, h3.at fun o q => k i3 (by simp) o q⟩
  item := by
    intro X hP hw hK hc i pins s σ H E I hfp st hg
    subst hP hw hK
    obtain ⟨hz, hTI, ⟨x0, y0, u0, hTO⟩, h1, h2, h3⟩ := st
    obtain ⟨xs, ys, zs, x, y, u, ⟨hqx, hqy, hqz⟩, hx, hy, hu⟩ := hg
    obtain ⟨ua, wa, p, _⟩ := I.list hqx
    obtain ⟨ub, wb, p2, _⟩ := I.list hqy
    obtain ⟨uc, wc, p3, _⟩ := I.list hqz
    obtain ⟨v1, hv1, r1⟩ := wa.get hx
    obtain ⟨v2, hv2, r2⟩ := wb.get hy
    obtain ⟨v3, hv3, r3⟩ := wc.get hu
    have zlt : z < s.heap.objs.size := Heap.lt_size hz
    have hh : X.A.in1.handled = none := I.ok.hd hc
    have n1 : a ≠ i1 := fun e => by
      obtain ⟨o, ho, _, hd⟩ := h1
      obtain ⟨o', ho', _, hd'⟩ := p.isList
      rw [← e, ho'] at ho
      have := (Option.some.inj ho)
      subst this
      simp_all
    have n2 : b ≠ i2 := fun e => by
      obtain ⟨o, ho, _, hd⟩ := h2
      obtain ⟨o', ho', _, hd'⟩ := p2.isList
      rw [← e, ho'] at ho
      have := (Option.some.inj ho)
      subst this
      simp_all
    have n3 : c ≠ i3 := fun e => by
      obtain ⟨o, ho, _, hd⟩ := h3
      obtain ⟨o', ho', _, hd'⟩ := p3.isList
      rw [← e, ho'] at ho
      have := (Option.some.inj ho)
      subst this
      simp_all
    have l1 : i < ua.toArray.size := by have := (List.getElem?_eq_some_iff.mp hv1).1; simpa using this
    have l2 : i < ub.toArray.size := by have := (List.getElem?_eq_some_iff.mp hv2).1; simpa using this
    have l3 : i < uc.toArray.size := by have := (List.getElem?_eq_some_iff.mp hv3).1; simpa using this
    refine wpAny_pyNext_zipD3_item D (Draws.list hh i1 a n1 ua.toArray) (Draws.list hh i2 b n2 ub.toArray) (Draws.list hh i3 c n3 uc.toArray) hz hTI hTO ⟨h1, p.isList⟩ ⟨h2, p2.isList⟩ ⟨h3, p3.isList⟩ l1 l2 l3
      fun x1 x2 x3 h' tk y1 y2 y3 z' TOk st1 st2 st3 hNew hsz hk => ?_
    have q1 : v1 = x1 := Option.some.inj (hv1.symm.trans (by simpa using y1))
    have q2 : v2 = x2 := Option.some.inj (hv2.symm.trans (by simpa using y2))
    have q3 : v3 = x3 := Option.some.inj (hv3.symm.trans (by simpa using y3))
    subst q1 q2 q3
    refine ⟨_, rfl, wpAny_letOwnedTupleGo_zip (s := { s with heap := h', toks := tk }) z' fun h'' z'' sub => ?_⟩
    have hNew2 : h''.get? s.heap.objs.size = some { cls := .type "tuple", data := .seq #[v1, v2, v3] } := (sub.2 _ (Nat.ne_of_gt zlt)).trans hNew
    have new : ObjOk X.prog X.w (upd H s.heap.objs.size (.tup [x, y, u])) h'' s.heap.objs.size (.tup [x, y, u]) :=
      ⟨by show 3 ≤ sizeLine; decide, [v1, v2, v3], .cons r1 (.cons r2 (.cons r3 .nil)), ⟨_, hNew2, rfl, _, rfl⟩⟩
    have I1 : Inv X pins σ (upd H s.heap.objs.size (.tup [x, y, u])) { s with heap := h'', toks := tk } :=
      I.turnedNew (t' := tk) (ch := [z, TI, TO, i1, i2, i3]) (fun d o hb q => (sub.2 d (fun q' => hb (by simp [q']))).trans (hk d o (fun q' => hb (by simp [q'])) (fun q' => hb (by simp [q'])) (fun q' => hb (by simp [q'])) (fun q' => hb (by simp [q'])) (fun q' => hb (by simp [q'])) q)) hfp (Nat.le_refl _) new
    refine ⟨.ref s.heap.objs.size, _, I1, rfl, ⟨_, x, y, u, rfl, I.hok.fresh (Nat.le_refl _), rfl, fun l hl => by rw [I.list_inj hl hqx]; exact hx, fun l hl => by rw [I.list_inj hl hqy]; exact hy, fun l hl => by rw [I.list_inj hl hqz]; exact hu⟩,
      ⟨z'', ?_, ⟨v1, v2, v3, ?_⟩, ?_, ?_, ?_⟩, fun d hdm => ?_⟩
    · exact (sub.2 _ D.TIz).trans (hk _ _ D.TIz D.TITO D.TIi1 D.TIi2 D.TIi3 hTI)
    · exact (sub.2 _ D.TOz).trans TOk
    · exact st1.1.at fun o q => (sub.2 _ (Ne.symm D.zi1)).trans q
    · exact st2.1.at fun o q => (sub.2 _ (Ne.symm D.zi2)).trans q
    · exact st3.1.at fun o q => (sub.2 _ (Ne.symm D.zi3)).trans q
    · have dlt : d < s.heap.objs.size := by
        have e' : d = z ∨ d = TI ∨ d = TO ∨ d = i1 ∨ d = i2 ∨ d = i3 := by simpa using hdm
        rcases e' with q | q | q | q | q | q
        · subst q; exact zlt
        · subst q; exact Heap.lt_size hTI
        · subst q; exact Heap.lt_size hTO
        · subst q; obtain ⟨_, e1, _⟩ := h1; exact Heap.lt_size e1
        · subst q; obtain ⟨_, e2, _⟩ := h2; exact Heap.lt_size e2
        · subst q; obtain ⟨_, e3, _⟩ := h3; exact Heap.lt_size e3
      rw [upd_ne (Nat.ne_of_lt dlt)]
      exact (hfp d hdm).1
  done := by
    intro X hP hw hK hc i pins s σ H E I hfp st hg
    subst hP hw hK
    obtain ⟨hz, hTI, ⟨x0, y0, u0, hTO⟩, h1, h2, h3⟩ := st
    obtain ⟨xs, ys, zs, ⟨hqx, hqy, hqz⟩, ⟨g1, g2, g3⟩, hend⟩ := hg
    obtain ⟨ua, wa, p, _⟩ := I.list hqx
    obtain ⟨ub, wb, p2, _⟩ := I.list hqy
    obtain ⟨uc, wc, p3, _⟩ := I.list hqz
    have l1 := wa.length
    have l2 := wb.length
    have l3 := wc.length
    have hh : X.A.in1.handled = none := I.ok.hd hc
    have n1 : a ≠ i1 := fun e => by
      obtain ⟨o, ho, _, hd⟩ := h1
      obtain ⟨o', ho', _, hd'⟩ := p.isList
      rw [← e, ho'] at ho
      have := (Option.some.inj ho)
      subst this
      simp_all
    have n2 : b ≠ i2 := fun e => by
      obtain ⟨o, ho, _, hd⟩ := h2
      obtain ⟨o', ho', _, hd'⟩ := p2.isList
      rw [← e, ho'] at ho
      have := (Option.some.inj ho)
      subst this
      simp_all
    have n3 : c ≠ i3 := fun e => by
      obtain ⟨o, ho, _, hd⟩ := h3
      obtain ⟨o', ho', _, hd'⟩ := p3.isList
      rw [← e, ho'] at ho
      have := (Option.some.inj ho)
      subst this
      simp_all
    have s1 : ua.toArray.size = ua.length := by simp
    have s2 : ub.toArray.size = ub.length := by simp
    have s3 : uc.toArray.size = uc.length := by simp
    exact wpAny_pyNext_zipD3_end D (Draws.list hh i1 a n1 ua.toArray) (Draws.list hh i2 b n2 ub.toArray) (Draws.list hh i3 c n3 uc.toArray) hz hTI hTO ⟨h1, p.isList⟩ ⟨h2, p2.isList⟩ ⟨h3, p3.isList⟩
      (by omega) (by omega) (by omega) (by omega) fun h' tk hk => ⟨rfl, I.turnedL (t' := tk) (ch := [z, TI, TO, i1, i2, i3]) (fun d o hb q =>
      hk d o (fun q' => hb (by simp [q'])) (fun q' => hb (by simp [q'])) (fun q' => hb (by simp [q'])) (fun q' => hb (by simp [q'])) (fun q' => hb (by simp [q'])) q) hfp⟩
  self := fun _ _ _ _ _ st => wpAny_pyIter_zip st.1
def iZip3 (K : PySem.W.Frag) (ta : TA) : TI := fun σ H R => ta σ H fun vs H1 => ∃ a b c xs ys zs, vs = [.ref a, .ref b, .ref c] ∧ (SqL K H1 a xs ∧ SqL K H1 b ys ∧ SqL K H1 c zs) ∧ R (Itz3 K a b c) H1
theorem pi_zip3 {X : Cx} {e e2 e3 : Expr} {ta : TA} {p pos tpos : Pos} {elts : List Expr} {kk : Nat} (hg : Gl X "zip") (hm : X.mg "zip" = none) (ha : PA X [e, e2, e3] ta)
    (hs : starEach [e, e2, e3] X.env = (false, eval e X.env) :: starEach [e2, e3] X.env := by rfl) (hpl : (backTo pos (starEach [e2, e3] X.env)).any (·.1) = false := by rfl) :
    PI X (.Tuple elts kk tpos) (.Call (.Name "zip" p) [e, e2, e3] [] pos) (iZip3 X.K ta) := by
  refine ⟨fun pins s σ H Want I h => ?_⟩
  refine Call_ (ld_blt I hg hm PyProof.Rows.boot_zip (PyProof.Rows.callWith_type1 (thn (ha.run pos pins s σ H _ I h) fun _ s1 ⟨vs, H1, I1, r1, q1⟩ => ?_) hs hpl))
  obtain ⟨a, b, c, xs, ys, zs, ex, ⟨hqx, hqy, hqz⟩, q⟩ := q1
  subst ex
  cases r1 with
  | cons r rr =>
    cases rr with
    | cons r' rr =>
      cases rr with
      | cons r'' rr =>
        cases rr
        cases r
        cases r'
        cases r''
        obtain ⟨ua, wa, p1, _⟩ := I1.list hqx
        obtain ⟨ub, wb, p2, _⟩ := I1.list hqy
        obtain ⟨uc, wc, p3, _⟩ := I1.list hqz
        have sza : a < s1.heap.objs.size := p1.lt
        have szb : b < s1.heap.objs.size := p2.lt
        have szc : c < s1.heap.objs.size := p3.lt
        refine zip_begins3 (begins_list a _) (begins_list b _) (begins_list c _) p1.isList p2.isList p3.isList fun h' hz hTI hTO h1 h2 h3 hsz hk => wpAny_pyIter_zip hz ?_
        have Iz : Inv X pins σ H1 { s1 with heap := h' } := I1.kept (t' := s1.toks) hk
        refine ⟨s1.heap.objs.size + 5, [s1.heap.objs.size + 5, s1.heap.objs.size + 3, s1.heap.objs.size + 4, s1.heap.objs.size, s1.heap.objs.size + 1, s1.heap.objs.size + 2], _, _, H1, rfl, Iz,
          turn_zip3 (zip_sep3 (fp1 := [a]) (fp2 := [b]) (fp3 := [c]) (by simpa using sza) (by simpa using szb) (by simpa using szc)), ⟨hz, hTI, ⟨_, _, _, hTO⟩, ⟨_, h1, rfl, rfl⟩, ⟨_, h2, rfl, rfl⟩, ⟨_, h3, rfl, rfl⟩⟩, fun d hdm => ?_, q⟩
        have e' : d = s1.heap.objs.size + 5 ∨ d = s1.heap.objs.size + 3 ∨ d = s1.heap.objs.size + 4 ∨ d = s1.heap.objs.size ∨ d = s1.heap.objs.size + 1 ∨ d = s1.heap.objs.size + 2 := by simpa using hdm
        have hge : s1.heap.objs.size ≤ d := by
          rcases e' with z | z | z | z | z | z <;> (subst z; simp)
        exact I1.fpOk hge (I1.hok.fresh hge)
end Ak
/-! errors of own classes with fields: isinstance of such a one, a def that tells or raises -/
namespace Ak
open PySem PySem.Spec PyProof.Rows L2
/-- isinstance(e, c), e the exception that the suite holds (its class D, its dict d) -/
def rIsD (K : PySem.W.Frag) (D a : Addr) (d : Option Addr) : List V → Hp → VK → Prop := fun xs H Q => ∃ (c : V) (cv : Value) (b : Bool) (dd : Addr) (fs : List (Str × V)), xs = [.ref a, c] ∧ (∀ u, RelV c u → u = cv) ∧ PySem.W.kitOne K (.ref D) cv = some b ∧
  d = some dd ∧ H dd = some (.xd fs) ∧ Q (.bl b) H
theorem call_isD {X : Cx} {a D : Addr} {d : Option Addr} {oe : Obj} {pn : List (Addr × Obj)} (C : ExcC X.K D) (hz : Zc (.ref D) d oe) (hf : ∃ vs, oe.data = .fields vs) : CallR (X.suite a ((a, oe) :: pn)) (.builtin "isinstance") (rIsD X.K D a d) := by
  intro pins s σ H xs us Q I r h
  obtain ⟨c, cv, b, dd, fs, rfl, hcv, e, rfl, hd, q⟩ := h
  cases r with
  | cons r1 rr =>
    cases rr with
    | cons r2 rr =>
      cases rr
      cases r1
      have ec := hcv _ r2
      subst ec
      have pin := (I.pin (a, oe) (List.mem_append_left _ List.mem_cons_self)).1
      obtain ⟨vs, hv⟩ := hf
      have ob : ObjOk X.prog X.w H s.heap dd (.xd fs) := I.hok dd _ hd
      obtain ⟨mA, hns, _⟩ := ob
      obtain ⟨od, ho, _⟩ := lookIn_ns hns
      have J : PySem.W.InstAt s.heap a oe D (some od) := ⟨pin, hz.1, by unfold PySem.W.notCls; rw [hv] <;> rfl, by rw [hz.2]; exact ho⟩
      obtain ⟨cd, hc, _⟩ := PySem.W.any_some C.hd
      exact PySem.W.kia_one (PySem.W.kitx_exc (by rw [hc]; rfl) C.hg C.hk C.hs C.ha C.hn C.ht C.hm) I.kIn J e (fun z => nomatch z) fun tk => ⟨.bl b, H, I.kept (t' := tk) fun _ _ z => z, rfl, q⟩
section
variable {P : Program} {w : World} {K : PySem.W.Frag} {mg : Str → Option Value} {base : Heap} {CX : CXT} {k : Nat} {f : Addr} {fd : FuncData} {ps : List Str} {sp sp' : Sp}
theorem FnOk.lift (F : FnOk P w K mg base CX0 k f fd ps sp) : FnOk P w K mg base CX k f fd ps sp :=
  ⟨F.len, fun A outer s H args us vs Q E hr he hb hv hs => by
    refine codeAny_mono (F.run A outer s H args us vs Q E hr he hb hv hs) fun r s' h => ?_
    cases r with
    | ok v => cases v <;> exact h
    | error e => exact h.elim⟩
theorem FnOk.or (F : FnOk P w K mg base CX k f fd ps sp) (G : FnOk P w K mg base CX k f fd ps sp') : FnOk P w K mg base CX k f fd ps (fun vs H Q E => sp vs H Q E ∨ sp' vs H Q E) :=
  ⟨fun vs H Q E q => q.elim (F.len vs H Q E) (G.len vs H Q E), fun A outer s H args us vs Q E hr he hb hv hs => hs.elim (F.run A outer s H args us vs Q E hr he hb hv) (G.run A outer s H args us vs Q E hr he hb hv)⟩
/-- of several defs that a slot may hold, each of which may raise -/
structure HeldX (P : Program) (w : World) (K : PySem.W.Frag) (mg : Str → Option Value) (base : Heap) (CX : CXT) (k : Nat) (f : Addr) (sp : Sp) : Prop where
  ex : ∃ (fd : FuncData) (ps : List Str), FnOk P w K mg base CX k f fd ps sp ∧ PySem.W.keepIn K (.ref f) = true ∧ Binds K fd ps []
def tCallAX (i : Nat) (S : Addr → Option Sp) (E : XK) (t : TA) : TE := fun σ H Q => ∃ f sp, σ[i]? = some (some (.ref f)) ∧ S f = some sp ∧ t σ H fun vs H1 => sp vs H1 Q E
theorem pe_callAX {X : Cx} {CX : CXT} {k i : Nat} {E : XK} {x : Str} {p pos : Pos} {e : Expr} {es : List Expr} {t : TA} {S : Addr → Option Sp} (A : ∀ f sp, S f = some sp → HeldX X.prog X.w X.K X.mg X.base CX k f sp) (hr : Room k X.A) (hN : X.N[i]? = some x) (hv : Vis X.env.scope x) (hx : Passes CX X E) (ha : PA X (e :: es) t)
    (hdb : (x == ("__debug__" : Str)) = false := by decide) (hcd : (x == ("__classdict__" : Str)) = false := by decide)
    (he : starEach (e :: es) X.env = (false, eval e X.env) :: starEach es X.env := by rfl) (hpl : (backTo pos (starEach es X.env)).any (·.1) = false := by rfl) : PE X (.Call (.Name x p) (e :: es) [] pos) (tCallAX i S E t) := by
  refine ⟨fun pins s σ H Q I h => ?_⟩
  obtain ⟨f, sp, hs, hS, ht⟩ := h
  obtain ⟨fd, ps, F, hk, hb⟩ := (A f sp hS).ex
  refine (pe_callL (i := i) (f := f) (sp := sp) (dvs := []) (E := E) F hr hN hv hk hb .nil hx ha hdb hcd he hpl).run pins s σ H Q I ⟨hs, ?_⟩
  have e0 : (fun (vs : List V) (H1 : Hp) => sp (vs ++ []) H1 Q E) = fun vs H1 => sp vs H1 Q E := by
    funext vs H1
    rw [List.append_nil]
  show t σ H (fun vs H1 => sp (vs ++ []) H1 Q E)
  rw [e0]
  exact ht
end
end Ak
/-! t[::-1], t a tuple: a new tuple -/
namespace Ak.RevT
open PySem PyProof.Rows HT
open PySem.SeqAt
open PySem.MeetsSeq PySem.MeetsSeq2 PySem.MeetsSeq3
theorem adj (n : Nat) : Builtin.Slice.sliceAdjust none none (-1) (n : Int) = ((n : Int) - 1, -1) := by
  unfold Builtin.Slice.sliceAdjust
  simp
theorem plc (n : Nat) : Builtin.Slice.slicePlaces ((n : Int) - 1) (-1) (-1) = n := by
  unfold Builtin.Slice.slicePlaces
  have h1 : ¬ ((-1 : Int) > 0) := by omega
  rw [if_neg h1]
  by_cases h : ((n : Int) - 1) > -1
  · rw [if_pos h]
    show (((n : Int) - 1 - -1 - 1) / 1 + 1).toNat = n
    rw [Int.ediv_one]; omega
  · rw [if_neg h]; omega
theorem pck (xs : Array Value) : ((List.range xs.size).filterMap fun (m : Nat) => xs[(((xs.size : Int) - 1) + (m : Int) * (-1)).toNat]?).toArray = xs.toList.reverse.toArray := by
  have e : (fun (m : Nat) => xs[(((xs.size : Int) - 1) + (m : Int) * (-1)).toNat]?) = (fun x => xs[x]?) ∘ fun m => xs.size - 1 - m := by
    funext m
    have : (((xs.size : Int) - 1) + (m : Int) * (-1)).toNat = xs.size - 1 - m := by omega
    simp only [Function.comp, this]
  rw [e, ← List.filterMap_map, PySem.W.krv_range, List.filterMap_reverse, PySem.W.krv_all]
section
variable {prog : Program} {w : World} {A : Around} {E : Value → Shared → Prop} {s : Shared}
theorem appl {sl : Addr} {vl vu vs : Value} {n : Nat} {Q : Int × Int × Nat → Shared → Prop} (hs : s.heap.IsSliceOf sl vl vu vs) (pl : IsPart vl none) (pu : IsPart vu none) (ps : IsPart vs (some (-1)))
    (h : Q ((n : Int) - 1, -1, n) s) : wpAny (model prog w) A (Builtin.Slice.sliceApplied (.ref sl) (pure (n : Int))) Q E s := by
  obtain ⟨os, hos, hcs, hds⟩ := id hs
  unfold Builtin.Slice.sliceApplied Builtin.Slice.sliceFields
  refine wpAny_bind (wpAny_bind (wpAny_field hos hds (x := vl) rfl (wpAny_bind (wpAny_field hos hds (x := vu) rfl (wpAny_bind (wpAny_field hos hds (x := vs) rfl (wpAny_pure ?_)))))))
  refine wpAny_bind (slicePart_ ps ?_)
  show wpAny _ _ (if ((-1 : Int) == 0) = true then _ else _) _ _ s
  rw [if_neg (by decide)]
  refine wpAny_bind (slicePart_ pl (wpAny_bind (slicePart_ pu (wpAny_bind (wpAny_pure ?_)))))
  show wpAny _ _ (match Builtin.Slice.sliceAdjust none none (-1) (n : Int) with | (lo, hi) => pure (lo, (-1 : Int), Builtin.Slice.slicePlaces lo hi (-1))) _ _ s
  rw [adj]
  show wpAny _ _ (pure ((n : Int) - 1, (-1 : Int), Builtin.Slice.slicePlaces ((n : Int) - 1) (-1) (-1))) _ _ s
  rw [plc]
  exact wpAny_pure h
theorem getI {t sl : Addr} {items : Array Value} {vl vu vs : Value} {Q : Value → Shared → Prop} (ht : IsTup s.heap t items) (hs : s.heap.IsSliceOf sl vl vu vs) (pl : IsPart vl none) (pu : IsPart vu none) (ps : IsPart vs (some (-1)))
    (h : Q (.ref s.heap.objs.size) { s with heap := s.heap.push { cls := .type "tuple", data := .seq items.toList.reverse.toArray } }) (hsz : items.size ≤ sizeLine) : wpAny (model prog w) A (getItem (.ref t) (.ref sl)) Q E s := by
  have htk : sizeOk (.seq items.toList.reverse.toArray) := by
    show items.toList.reverse.toArray.size ≤ sizeLine
    rw [List.size_toArray, List.length_reverse, Array.length_toList]; exact hsz
  obtain ⟨os, hos, hcs, hds⟩ := id hs
  have hT : s.TypeIs (.ref sl) "slice" := ⟨os, hos, hcs⟩
  unfold getItem
  try with_reducible refine wpAny_holding ?_
  first | refine wpAny_bind (wpAny_pure ?_) | skip
  refine wpAny_bind (wpAny_sequenceKey ht.typeIs (by decide) ?_)
  refine wpAny_bind (wpAny_callSpecial?_slot (name := Str.ofString "__getitem__") ht.typeIs PyProof.Rows.slot_tuple_getitem (wpAny_call_entry PyProof.Rows.slot_tuple_getitem ht.typeIs entry_tuple_getitem ?_ (args_tuple_getitem _ _)))
  show wpAny _ _ (Builtin.Tuple.tupleItemsOf (.ref t) >>= _) _ _ s
  refine wpAny_bind (tupleItemsOf_ ht (wpAny_bind (wpAny_typeOf hT ?_)))
  rw [if_pos (by decide)]
  refine wpAny_bind (appl hs pl pu ps ?_)
  have hno : ¬ ((((items.size : Int) - 1) == 0 && (-1 : Int) == 1 && items.size == items.size) = true) := by
    rw [show ((-1 : Int) == 1) = false from rfl, Bool.and_false, Bool.false_and]
    exact Bool.false_ne_true
  show wpAny _ _ (if ((((items.size : Int) - 1) == 0 && (-1 : Int) == 1 && items.size == items.size)) = true then _ else _) _ _ s
  rw [if_neg hno, pck]
  first
    | exact wpAny_bind (m := Builtin.Tuple.tupleExact _) (wpAny_newObj_type (wpAny_pure ⟨_, rfl, wpAny_pure h⟩) htk)
    | exact wpAny_bind (m := Builtin.Tuple.tupleExact _) (wpAny_newObj_type (wpAny_bind (wpAny_pure (wpAny_pure ⟨_, rfl, wpAny_pure h⟩))) htk)
    | exact wpAny_bind (wpAny_bind (m := Builtin.Tuple.tupleExact _) (wpAny_newObj_type (wpAny_pure (wpAny_pure ⟨_, rfl, wpAny_pure h⟩)) htk))
    | exact wpAny_bind (wpAny_bind (m := Builtin.Tuple.tupleExact _) (wpAny_newObj_type (wpAny_pure ⟨_, rfl, wpAny_pure h⟩) htk))
end
end Ak.RevT
namespace Ak
open PySem PySem.Spec PyProof.Rows L2
def tRevT (K : PySem.W.Frag) (te : TE) : TE := fun σ H Q => te σ H fun x G => ∃ b zs, x = .ref b ∧ SqT K G b zs ∧ ∀ q, G q = none → Q (.ref q) (upd G q (.tup zs.reverse))
theorem pe_revT {X : Cx} {e : Expr} {te : TE} {k : Nat} {p1 p2 p3 pos : Pos} (he : PE X e te) : PE X (.Subscript e (.Slice none none (some (.UnaryOp .USub (.Constant (.int 1) k p1) p2)) p3) pos) (tRevT X.K te) := by
  refine ⟨fun pins s σ H Q I h => ?_⟩
  refine Subscript_ (thn (he.run pins s σ H _ I h) fun v s1 ⟨x, G1, J1, rx, b, zs, ex, hz, q⟩ => ?_)
  subst ex
  cases rx
  have step : PO X (some (.UnaryOp .USub (.Constant (.int 1) k p1) p2)) (tPart (tUn (rU fun i => .int (-i)) (tC (.int 1)))) := po_some (pe_un un_neg pe_int)
  refine wpAny_Slice (thn (po_none.run pins s1 σ G1 (fun o G => o = none ∧ G = G1) J1 ⟨rfl, rfl⟩) fun vl s2 ⟨l, G2, J2, pl, el, e2⟩ => ?_)
  subst el e2
  refine thn (po_none.run pins s2 σ G2 (fun o G => o = none ∧ G = G2) J2 ⟨rfl, rfl⟩) fun vu s3 ⟨u, G3, J3, pu, eu, e3⟩ => ?_
  subst eu e3
  refine thn (step.run pins s3 σ G3 (fun o G => o = some (-1) ∧ G = G3) J3 ⟨1, rfl, -1, rfl, rfl, rfl⟩) fun vs s4 ⟨o, G4, J4, ps, eo, e4⟩ => ?_
  subst eo e4
  have J5 : Inv X pins σ G4 { s4 with heap := s4.heap.push { cls := .type "slice", data := .fields #[vl, vu, vs] } } := J4.kept (t' := s4.toks) fun b ob q => Heap.get?_push_of_some _ q
  obtain ⟨its, r, ht, hs⟩ := J5.tuple hz
  have hlen := r.length
  show wpAny (model X.prog X.w) X.A (subscriptTail e (.Slice none none (some (.UnaryOp .USub (.Constant (.int 1) k p1) p2)) p3) (.ref b) (.ref s4.heap.objs.size)) (EP X pins σ Q) X.xe { s4 with heap := s4.heap.push { cls := .type "slice", data := .fields #[vl, vu, vs] } }
  refine tail_any (ops := [.ref b, .ref s4.heap.objs.size]) ht.typeIs (PyProof.Rows.slot_tuple_getitem.lookup) ?_ (by with_unfolding_all rfl)
  refine RevT.getI ht (Heap.IsSliceOf.new _ vl vu vs) pl pu ps ?_ (by rw [List.size_toArray]; omega)
  refine ⟨.ref _, _, J5.laid (t' := s4.toks) (o := .tup zs.reverse) (fun b ob q => Heap.get?_push_of_some _ q) (Nat.le_refl _) ?_, rfl, q _ (J5.hok.fresh (Nat.le_refl _))⟩
  exact ⟨by rw [List.length_reverse]; exact hs, _, r.reverse, IsTup.new _ _⟩
end Ak
/-! rules of our own: n not in range(k); del xs[a:]; xs[i] += e -/
namespace Ak
open PySem PySem.Spec PyProof.Rows L2
section
variable {X : Cx}
theorem cr_range1 : CallR X (.type "range") (fun vs H Q => ∃ j, vs = [V.int j] ∧ ∀ p, H p = none → Q (.ref p) (upd H p (.rng 0 j))) := by
  intro pins s σ H vs us Q I r h
  obtain ⟨j, rfl, q⟩ := h
  cases r with
  | cons r1 rr =>
    cases rr
    obtain ⟨u, rfl⟩ := r1
    refine call_range_1 ⟨.ref s.heap.objs.size, upd H s.heap.objs.size (.rng 0 j), I.laid (t' := s.toks + 1 + 1) (fun b o e => Heap.get?_push_of_some _ e) (Nat.le_refl _) ?_, rfl, q _ (I.hok.fresh (Nat.le_refl _))⟩
    exact ⟨s.toks, u, s.toks + 1, Heap.get?_push_size _ rfl⟩
def rNotInRng : R2 := fun x y H Q => ∃ i a lo hi, x = V.int i ∧ y = V.ref a ∧ H a = some (.rng lo hi) ∧ Q (.bl (!decide (lo ≤ i ∧ i < hi))) H
theorem op_notIn_rng : OpR X (compareOp .NotIn) rNotInRng := by
  intro pins s σ H x y v u Q I rx ry h
  obtain ⟨i, a, lo, hi, rfl, rfl, ha, q⟩ := h
  obtain ⟨k, rfl⟩ := rx
  obtain rfl : u = Value.ref a := ry
  obtain ⟨t1, t2, t3, ho⟩ := I.hok a _ ha
  show wpAny _ _ (do return Value.bool !(← contains (Value.ref a) (Value.int i k))) _ _ s
  refine wpAny_bind (wpAny_contains_slot (T := "range") ⟨_, ho, rfl⟩ F.slot_range_contains (call_meets F.slot_range_contains ⟨_, ho, rfl⟩ F.entry_range_contains (F.args_range_contains_2 _ _) (q_contains a lo hi i t1 t2 t3 k)
    ⟨ho, wpAny_truthy_bool (wpAny_pure ⟨.bl _, H, I, rfl, ?_⟩)⟩))
  rw [place1]
  exact q
/-- xs == [], xs != [], whatever xs holds -/
def rEqNil (K : PySem.W.Frag) (neg : Bool) : R2 := fun x y H Q => ∃ a b xs, x = V.ref a ∧ y = V.ref b ∧ SqL K H a xs ∧ SqL K H b [] ∧ Q (.bl (if neg then !xs.isEmpty else xs.isEmpty)) H
theorem op_eqNil (hu : X.A.units + 64 < cLine) : OpR X (compareOp .Eq) (rEqNil X.K false) := by
  intro pins s σ H x y v u Q I rx ry h
  obtain ⟨a, b, xs, rfl, rfl, hx, hy, q⟩ := h
  cases rx
  cases ry
  obtain ⟨us, r1, p1, _⟩ := I.list hx
  obtain ⟨ws, r2, p2, _⟩ := I.list hy
  cases r2
  cases r1 with
  | nil => exact SeqAt.eq_listAt (e := fun _ => true) p1.isList p2.isList rfl (by omega) (fun j h1 _ => absurd h1 (Nat.not_lt_zero j)) ⟨.bl _, H, I, rfl, q⟩
  | cons _ _ => exact SeqAt.eq_list_lengthsAt p1.isList p2.isList (by simp) (by omega) ⟨.bl _, H, I, rfl, q⟩
theorem op_neNil (hu : X.A.units + 64 < cLine) : OpR X (compareOp .NotEq) (rEqNil X.K true) := by
  intro pins s σ H x y v u Q I rx ry h
  obtain ⟨a, b, xs, rfl, rfl, hx, hy, q⟩ := h
  cases rx
  cases ry
  obtain ⟨us, r1, p1, _⟩ := I.list hx
  obtain ⟨ws, r2, p2, _⟩ := I.list hy
  cases r2
  cases r1 with
  | nil => exact SeqAt.RcNeAt.lists (e := fun _ => true) p1.isList p2.isList rfl (by omega) (fun j h1 _ => absurd h1 (Nat.not_lt_zero j)) _ _ _ _ ⟨.bl _, H, I, rfl, q⟩
  | cons _ _ => exact SeqAt.RcNeAt.lists_lengths p1.isList p2.isList (by simp) (by omega) _ _ _ _ ⟨.bl _, H, I, rfl, q⟩
/-- xs[i] op= e: the read -/
theorem pget_list : PGet X (rIxL X.K) := by
  intro pins s σ H x y v u Q I rx ry h
  obtain ⟨p, xs, i, z, rfl, rfl, hq, he, q⟩ := h
  cases rx
  obtain ⟨t, rfl⟩ := ry
  obtain ⟨its, r, pl, hz⟩ := I.list hq
  obtain ⟨j, h1, h2, h3, h4, h5⟩ := atI_get he
  obtain ⟨w, ew, rw'⟩ := r.get h2
  have hl := r.length
  have hn := line63
  have fin : EP X pins σ Q w s := ⟨z, H, I, rw', q⟩
  by_cases h0 : 0 ≤ i
  · have hj : i.toNat = j := by
      rw [seqIndex_of h0 h5] at h1
      exact Option.some.inj h1
    exact wpAny_getItem_list pl.isList h0 (by omega) (by rw [hj]; simpa using ew) fin
  · have hj : (i + (its.toArray.size : Int)).toNat = j := by
      rw [seqIndex_neg (by omega) h4] at h1
      rw [List.size_toArray, ← hl]
      exact Option.some.inj h1
    exact wpAny_getItem_list_neg pl.isList (by omega) (by rw [List.size_toArray] <;> omega) (by omega) (by rw [hj]; simpa using ew) fin
end
section
def mySel (start stop step : Int) (i : Nat) : Bool :=
  if step > 0 then start ≤ i && i < stop && (i - start) % step == 0
  else stop < i && i ≤ start && (start - i) % (-step) == 0
def cutF (a b : Int) : Array Value → Array Value := fun xs => (xs.toList.zipIdx.filterMap fun (x, k) => if mySel a b 1 k then none else some x).toArray
theorem cut_ix {α : Type} : ∀ (l : List α) (k a n : Nat), k + l.length = n → (l.zipIdx k).filterMap (fun p => if mySel (a : Int) (n : Int) 1 p.2 then none else some p.1) = l.take (a - k)
  | [], k, a, n, _ => by simp
  | x :: l, k, a, n, h => by
    rw [List.zipIdx_cons, List.filterMap_cons]
    have ih := cut_ix l (k + 1) a n (by rw [List.length_cons] at h; omega)
    rw [List.length_cons] at h
    by_cases g : a ≤ k
    · have e : mySel (a : Int) (n : Int) 1 k = true := by
        unfold mySel
        rw [if_pos (by decide)]
        simp only [Bool.and_eq_true, decide_eq_true_eq, beq_iff_eq]
        exact ⟨⟨by omega, by omega⟩, Int.emod_one _⟩
      simp only [e, if_true]
      rw [ih, show a - (k + 1) = 0 by omega, show a - k = 0 by omega, List.take_zero, List.take_zero]
    · have e : mySel (a : Int) (n : Int) 1 k = false := by
        unfold mySel
        rw [if_pos (by decide)]
        have : decide ((a : Int) ≤ (k : Int)) = false := decide_eq_false (by omega)
        rw [this]; rfl
      simp only [e, Bool.false_eq_true, if_false]
      rw [ih, show a - k = (a - (k + 1)) + 1 by omega, List.take_succ_cons]
theorem bounds_from {a n : Nat} (ha : a ≤ n) : sliceBounds (some (a : Int)) none none n = ((a : Int), (n : Int), 1) := by
  simp only [sliceBounds, Option.getD_none]
  have p1 : ¬ ((a : Int) < 0) := by omega
  simp only [p1, if_false, show (1 : Int) > 0 by decide, if_true]
  congr 1
  omega
variable {prog : Program} {w : World} {A : Around} {E : Value → Shared → Prop} {s : Shared}
theorem del_cut {l sl : Addr} {xs0 : Array Value} {n : Nat} {vl : Value} {a : Nat} {Q : Unit → Shared → Prop}
    (e : s.heap.get? l = some { cls := .type "list", data := .seq xs0 n })
    (hs : s.heap.IsSliceOf sl vl .none .none) (pl : IsPart vl (some (a : Int))) (ha : a ≤ xs0.size) (hsz : xs0.size ≤ sizeLine)
    (h : Q () { s with heap := s.heap.update l (Obj.mapSeq (cutF (a : Int) (xs0.size : Int))) }) :
    wpAny (model prog w) A (delItem (.ref l) (.ref sl)) Q E s := by
  have hl : s.heap.IsList l xs0 := PySem.IsL.isList e
  obtain ⟨os, hos, hcs, hds⟩ := id hs
  have hT : s.TypeIs (.ref sl) "slice" := ⟨os, hos, hcs⟩
  have h0 : ¬ ((rawPart none == rawInt 0) = true) := Bool.false_ne_true
  have hz2 : (cutF (a : Int) (xs0.size : Int) xs0).size ≤ sizeLine + 1 := by
    have q : (cutF (a : Int) (xs0.size : Int) xs0) = (xs0.toList.take (a - 0)).toArray := by
      unfold cutF
      exact congrArg List.toArray (cut_ix xs0.toList 0 a xs0.size (by simp))
    rw [q, List.size_toArray, List.length_take, Array.length_toList]
    omega
  refine wpAny_delItem_slot hl.typeIs (by decide) F.slot_list_delitem (wpAny_call_entry F.slot_list_delitem hl.typeIs F.entry_list_delitem ?_ (F.args_list_delitem_2 _ _))
  show wpAny _ _ (Builtin.List.listSubscript? (.ref sl) >>= _) _ _ s
  refine wpAny_bind (by
    unfold Builtin.List.listSubscript?
    refine wpAny_bind (wpAny_specialOf hT slice_no_index ?_)
    simp only [Option.isNone_none, if_true]
    refine wpAny_pure ?_
    show wpAny _ _ (typeOf (.ref sl) >>= _) _ _ s
    refine wpAny_bind (wpAny_typeOf hT ?_)
    first | rw [if_neg (by decide)] | refine PySem.W.KFB.if_not (by decide) ?_
    rw [listSliceParts_eq]
    refine wpAny_bind (wpAny_bind (wpAny_field hos hds (x := .none) rfl (wpAny_bind (wpAny_listPart .none ?_))))
    rw [if_neg h0]
    refine wpAny_bind (wpAny_field hos hds (x := vl) rfl (wpAny_bind (wpAny_listPart pl (wpAny_bind (wpAny_field hos hds (x := .none) rfl (wpAny_bind (wpAny_listPart .none (wpAny_pure ?_))))))))
    refine wpAny_bind (m := Builtin.List.listItems (.ref l)) (by
      unfold Builtin.List.listItems
      refine wpAny_bind (wpAny_seqItems e rfl (wpAny_pure ?_))
      refine wpAny_bind (wpAny_of_eq ((sliceIndices_raw (some (a : Int)) none none xs0.size (by simp)).trans (congrArg (pure : Int × Int × Int → Sem (Int × Int × Int)) (bounds_from ha))) ?_)
      refine wpAny_bind (wpAny_rule ?_)
      show wpAny _ _ (updateSeq l (cutF (a : Int) (xs0.size : Int)) >>= _) _ _ s
      refine wpAny_bind (wpAny_updateSeq (hz := hsz) (_hz' := hz2) e rfl (wpAny_bind (wpAny_letGo ?_)))
      exact wpAny_pure ⟨.none, rfl, h⟩))
/-- del o[a:] -/
def tDelSlc (to tl : TE) : TS := fun D σ H => to σ H fun x H1 => tl σ H1 fun y H2 => ∃ (l : Addr) (xs : List V) (a : Nat), x = .ref l ∧ y = .int (a : Int) ∧ H2 l = some (.lst xs) ∧ a ≤ xs.length ∧ D.nx σ (upd H2 l (.lst (xs.take a)))
theorem ps_delSlc {X : Cx} {o lo : Expr} {p2 pos tpos : Pos} {to tl : TE} (ho : PE X o to) (hl : PE X lo tl) : PS X (.Delete [.Subscript o (.Slice (some lo) none none p2) tpos] pos) (tDelSlc to tl) := by
  refine ⟨fun pins s σ H D I h => ?_⟩
  refine wpAny_Delete (wpAny_deleteEach_cons (wpAny_delete_Subscript (thn (ho.run pins s σ H _ I h) fun u s1 ⟨x, H1, I1, rx, q1⟩ => wpAny_Slice ?_)))
  refine thn (hl.run pins s1 σ H1 _ I1 q1) fun vl s2 ⟨y, H2, I2, ry, q2⟩ => ?_
  obtain ⟨l, xs, a, rfl, rfl, hx, ha, q⟩ := q2
  rw [evalPart_none]
  refine wpAny_pure ?_
  refine wpAny_pure ?_
  have I4 : Inv X pins σ H2 { s2 with heap := s2.heap.push { cls := .type "slice", data := .fields #[vl, .none, .none] } } := I2.kept (t' := s2.toks) fun b ob q => Heap.get?_push_of_some _ q
  cases rx
  obtain ⟨t, rfl⟩ := (show ∃ t, vl = Value.int (a : Int) t from ry)
  obtain ⟨z, its, n, rr, hl1, e⟩ := I4.lstM hx
  have lx := rr.length
  refine del_cut (a := a) e (Heap.IsSliceOf.new ..) (.int _ _) (by rw [List.size_toArray]; omega) (by rw [List.size_toArray]; omega) ?_
  refine wpAny_deleteEach_nil ⟨σ, _, I4.lset (its' := its.take a) (t' := s2.toks) hx e ?_ (rr.take _) (by rw [List.length_take]; omega), q⟩
  unfold cutF
  have := cut_ix its 0 a its.length (by simp)
  rw [List.size_toArray]
  exact congrArg List.toArray this
end
end Ak
/-! rules of our own: list(d.values()); xs != ys of equal tuples, of lists of the same items -/
namespace Ak
open PySem PySem.Spec PyProof.Rows L2
section
variable {prog : Program} {w : World}
open AutoSeq1 (wpAny_loadPart')
open PySem.MeetsSeq PySem.MeetsSeq2 PySem.MeetsSeq3 PySem.SeqRoads2
theorem tup_eq_ne (l b : Addr) (us ws : Array Value) (n m : Nat) (dl db : Option Addr) (kl kb : Array (Option Value)) (hz : us.size = ws.size) :
    MeetsIn prog w (Builtin.«tuple.__ne__» ⟨[.ref l, .ref b], []⟩) (fun A R s =>
      (s.heap.get? l = some { cls := .type "tuple", dict := dl, data := .seq us n, slots := kl } ∧ s.heap.get? b = some { cls := .type "tuple", dict := db, data := .seq ws m, slots := kb }) ∧
        (∀ j (h1 : j < us.size) (h2 : j < ws.size), SeqAt.EqP prog w A.in1 s us[j] ws[j] true) ∧ R (.ok (.ret (.bool false))) s) := by
  refine .of_wp fun A R s h => ?_
  obtain ⟨hp, g, d, tk, os⟩ := s
  obtain ⟨⟨e1, e2⟩, he, q⟩ := h
  have sub := AutoSeq1.sub_tuple_tuple
  have len : (us.toList.zip ws.toList).length = us.size := by simp [hz]
  wp_walk using wpAny_loadPart' e1, wpAny_loadPart' e2
  refine wpAny_forIn_list _ (fun rest c s' => (c.1 = none ∧ s' = ⟨hp, g, d, tk, os⟩) ∧ ∃ i, rest = (us.toList.zip ws.toList).drop i) _ ?tu ?fi _ _ ?st
  case tu =>
    rintro ⟨y, x⟩ rest c s' ⟨⟨ec, rfl⟩, i, hr⟩
    have hi : i < (us.toList.zip ws.toList).length := by
      apply Nat.lt_of_not_le
      intro g'
      rw [List.drop_of_length_le g'] at hr
      cases hr
    rw [List.drop_eq_getElem_cons hi] at hr
    injection hr with hyx hrest
    have hi1 : i < us.size := by omega
    have hi2 : i < ws.size := by omega
    obtain rfl : y = us[i] := by simpa using congrArg Prod.fst hyx
    obtain rfl : x = ws[i] := by simpa using congrArg Prod.snd hyx
    refine wpAny_bind (he i hi1 hi2 _ _ ?_)
    wp_walk
    exact ⟨⟨rfl, rfl⟩, i + 1, hrest⟩
  case fi =>
    rintro ⟨c1, c2⟩ s' ⟨⟨ec, rfl⟩, i, hr⟩
    simp only at ec
    subst ec
    wp_walk
    exact ⟨_, rfl, by simpa [Builtin.Tuple.tupleCompareSizes, bne, hz] using q⟩
  case st => exact ⟨⟨rfl, rfl⟩, 0, rfl⟩
theorem ne_tups {A : Around} {s : Shared} {l b : Addr} {us ws : Array Value} (hl : s.heap.IsTuple l us) (hb : s.heap.IsTuple b ws) (hz : us.size = ws.size) (hu : A.units < cLine) (he : ∀ j (h1 : j < us.size) (h2 : j < ws.size), SeqAt.EqP prog w A.in1 s us[j] ws[j] true)
    (E Q : Value → Shared → Prop) (q : Q (.bool false) s) : wpAny (model prog w) A (richCompare .NotEq (.ref l) (.ref b)) Q E s := by
  obtain ⟨⟨c1, d1, x1, k1⟩, o1, rfl, n1, rfl⟩ := hl
  obtain ⟨⟨c2, d2, x2, k2⟩, o2, rfl, n2, rfl⟩ := hb
  have t1 : s.TypeIs (.ref l) "tuple" := ⟨_, o1, rfl⟩
  exact wpAny_richCompare_same_room (op := .NotEq) t1 ⟨_, o2, rfl⟩ F.slot_tuple_ne (call_meetsIn F.slot_tuple_ne t1 F.entry_tuple_ne (F.args_tuple_ne_2 _ _) (tup_eq_ne l b us ws n1 n2 d1 d2 k1 k2 hz) ⟨⟨o1, o2⟩, he, (show Value.bool false ≠ Value.notImplemented ∧ Q (.bool false) s from ⟨(fun z => nomatch z), q⟩)⟩) hu
end
section
variable {X : Cx}
/-- x != y, two tuples whose items are equal -/
def rNeTup (K : PySem.W.Frag) : R2 := fun x y H Q => ∃ n a b xs ys, n ≤ 60 ∧ x = V.ref a ∧ y = V.ref b ∧ SqT K H a xs ∧ SqT K H b ys ∧ Paired (EqV K H n) xs ys ∧ Q (.bl false) H
theorem op_neTup (hu : X.A.units + 64 < cLine) : OpR X (compareOp .NotEq) (rNeTup X.K) := by
  intro pins s σ H x y v u Q I rx ry h
  obtain ⟨n, a, b, xs, ys, hn, rfl, rfl, ha, hb, pr, q⟩ := h
  cases rx
  cases ry
  obtain ⟨us, r1, p1, _⟩ := I.tuple ha
  obtain ⟨ws, r2, p2, _⟩ := I.tuple hb
  have hz : us.toArray.size = ws.toArray.size := by
    rw [List.size_toArray, List.size_toArray, ← r1.length, ← r2.length]; exact Paired.length pr
  refine ne_tups p1 p2 hz (by omega) (fun j h1 h2 => ?_) _ _ ⟨.bl false, H, I, rfl, q⟩
  have := items_run (eqV_run I n X.A.in1 (by show X.A.units + 1 + n < cLine; omega)) pr r1 r2 j (by simpa using h1) (by simpa using h2)
  simpa using this
/-- xs != ys, two lists of the same things -/
def rNeRefs (K : PySem.W.Frag) : R2 := fun x y H Q => ∃ a b xs, x = V.ref a ∧ y = V.ref b ∧ SqL K H a xs ∧ SqL K H b xs ∧ (∀ v ∈ xs, ∃ p, v = V.ref p) ∧ Q (.bl false) H
theorem vals_refs_eq : ∀ {xs : List V} {us ws : List Value}, (∀ v ∈ xs, ∃ p, v = V.ref p) → Vals xs us → Vals xs ws → us = ws
  | _, _, _, _, .nil, .nil => rfl
  | _, _, _, h, .cons h1 t1, .cons h2 t2 => by
    obtain ⟨p, rfl⟩ := h _ List.mem_cons_self
    cases h1
    cases h2
    rw [vals_refs_eq (fun v hv => h v (List.mem_cons_of_mem _ hv)) t1 t2]
theorem op_neRefs (hu : X.A.units + 64 < cLine) : OpR X (compareOp .NotEq) (rNeRefs X.K) := by
  intro pins s σ H x y v u Q I rx ry h
  obtain ⟨a, b, xs, rfl, rfl, hx, hy, hr, q⟩ := h
  cases rx
  cases ry
  obtain ⟨us, r1, p1, _⟩ := I.list hx
  obtain ⟨ws, r2, p2, _⟩ := I.list hy
  obtain rfl := vals_refs_eq hr r1 r2
  have := SeqAt.RcNeAt.lists (A := X.A) (e := fun _ => true) p1.isList p2.isList rfl (by omega) (fun j h1 h2 => by
    have : (us.toArray[j]) = us[j]'(by simpa using h1) := by simp
    exact SeqAt.EqAt.same _) X.prog X.w X.xe (EP X pins σ Q)
  exact this (by
    rw [show ((List.range us.toArray.size).all fun _ => true) = true from List.all_eq_true.mpr fun _ _ => rfl]
    exact ⟨.bl false, H, I, rfl, q⟩)
/-- list(d.values()) -/
def rListV : V → Hp → VK → Prop := fun x H Q => ∃ d kvs, x = .ref d ∧ H d = some (.dK kvs) ∧ ∀ q, H q = none → Q (.ref q) (upd H q (.lst (kvs.map (·.2))))
def tListV (te : TE) : TE := fun σ H Q => te σ H fun x H1 => rListV x H1 Q
variable {e : Expr} {te : TE} {p apos cpos pos : Pos}
theorem pe_listV (hc : X.calm = true) (he : PE X e te) (hg : Gl X "list") (hm : X.mg "list" = none) (hb : attributeBase e "values" X.env (eval e X.env) = eval e X.env := by rfl) (hl : (apos.endLine == cpos.line) = true := by rfl)
    (hs : starEach [.Call (.Attribute e "values" apos) [] [] cpos] X.env = (false, eval (.Call (.Attribute e "values" apos) [] [] cpos) X.env) :: starEach [] X.env := by rfl) :
    PE X (.Call (.Name "list" p) [.Call (.Attribute e "values" apos) [] [] cpos] [] pos) (tListV te) := by
  refine ⟨fun pins s σ H Q I hq => ?_⟩
  refine wpAny_Call_Name_kw (ld_blt I hg hm boot_list (PyProof.Rows.callWith_type1 ?_ hs rfl))
  rw [hs]
  refine Calls.spliced_cons ?_
  refine wpAny_Call_method (T := "dict") (id := "dict.values") hb rfl hl F.plainAttrs_dict F.slot_dict_values F.type_dict_values (thn (he.run pins s σ H _ I hq) fun u s1 ⟨x, H1, I1, rx, d, kvs, ex, hd, q⟩ => ?_)
  subst ex
  cases rx
  obtain ⟨z, lo, vs, kv, hdo⟩ := I1.hok d _ hd
  obtain ⟨ep, hat⟩ := hdo.dictAt
  have ll : kvs.length = vs.length := Paired.length kv
  refine ⟨hdo.typeIs, hdo.mapOf.noDict, method_meetsIn F.slot_dict_values F.entry_dict_values rfl (PySem.evalArgs_none ⟨rfl, hdo.typeIs, F.args_dict_values_1 _, _, meets_dict_values (mixKind X.prog X.w) d lo, ⟨vs, hdo⟩, ?_⟩)⟩
  have I2 : Inv X pins σ H1 { s1 with heap := s1.heap.push { cls := .type "dict_values", data := .fields #[.ref d] } } := I1.kept (t' := s1.toks) fun b o y => Heap.get?_push_of_some _ y
  refine Calls.spliced_nil ?_
  refine PySem.W.kdl_call (PySem.W.kdl_values (knd := mixKind X.prog X.w) (kvs := vs) (ep := ep)) (I1.ok.hd hc) ⟨⟨_, Heap.get?_push_size _ rfl, rfl, rfl⟩, hat.push _⟩ (by rw [← ll]; exact z) fun h' tk acc c hk hS ha => ?_
  refine ⟨.ref (s1.heap.push { cls := .type "dict_values", data := .fields #[.ref d] }).objs.size, upd H1 _ (.lst (kvs.map (·.2))), I2.laid hk (Nat.le_refl _) (show ObjOk X.prog X.w _ _ _ (.lst (kvs.map (·.2))) from ⟨?_, acc.toList, c, ?_, ?_⟩), rfl, q _ (I2.hok.fresh (Nat.le_refl _))⟩
  · rw [List.length_map]; exact z
  · have el : acc.toList.length = acc.size := by simp
    refine vals_of_at (by rw [List.length_map, el, ha.1, ll]) fun j x w h1 h2 => ?_
    obtain ⟨k, hk2⟩ := ha.2 j w (by rw [← Array.getElem?_toList]; exact h2)
    rw [List.getElem?_map] at h1
    cases e1 : kvs[j]? with
    | none => rw [e1] at h1; cases h1
    | some pk =>
      rw [e1] at h1
      obtain ⟨y, e2, _, e3⟩ := LiI.paired_get kv e1
      rw [hk2] at e2
      cases e2
      cases h1
      exact e3
  · rw [Array.toArray_toList]; exact hS
/-! ### y = {k: v for ..} -/
theorem sw_trueD {kx vx : Expr} {gs : List Comprehension} {sc : Scope} {p q : Pos} {y : Str} {l : Nat} {env : Env} (a1 : env.scope.kind = .function) (a2 : env.scope.names.lookup y = some .local) (a3 : (q.line == p.line) = true)
    (a4 : (sc.names.any fun (n, k) => n == y && (k == .local || k == .cell)) = false) : swapsWith (.DictComp kx vx gs sc p) (some (.Name y q)) l env = pure true := by
  have b1 : env.kindOf y = some .local := a2
  have b2 : env.blockKind = .function := by
    unfold Env.blockKind
    rw [a1]; rfl
  unfold swapsWith
  simp only [b2, b1, a4, Expr.pos, a3]
  rfl
theorem ps_setDc {i : Nat} {y : Str} {py : Pos} {kx vx tg iter : Expr} {ifs : List Expr} {sc : Scope} {own : List (Str × Nat)} {p1 p2 : Pos} {wi : TI} {g : TG} {tt : TT} {tk tv : TE} (hc : X.calm = true) (hN : X.N.Nodup) (hy : X.N[i]? = some y) (hyl : X.env.scope.names.lookup y = some .local)
    (sw : swapsWith (.DictComp kx vx [⟨tg, iter, ifs, 0⟩] sc p1) (some (.Name y py)) p2.line X.env = pure true) (hi : PI X tg iter wi) (ok : BlkOk X.N X.env.scope sc own)
    (hg : ∀ (s : Shared) (H : Hp) (C : Addr) (cl : List (Str × Addr)) (fp : List Addr), PG (X.blk s H sc (compEnvC sc cl C X.env) fp) tg g) (ht : ∀ (s : Shared) (H : Hp) (C : Addr) (cl : List (Str × Addr)) (fp : List Addr), PTs (X.blk s H sc (compEnvC sc cl C X.env) fp) ifs tt)
    (hk : ∀ (s : Shared) (H : Hp) (C : Addr) (cl : List (Str × Addr)) (fp : List Addr), PE (X.blk s H sc (compEnvC sc cl C X.env) fp) kx tk)
    (he : ∀ (s : Shared) (H : Hp) (C : Addr) (cl : List (Str × Addr)) (fp : List Addr), PE (X.blk s H sc (compEnvC sc cl C X.env) fp) vx tv) (hs : ∀ x, foldedSetIterable iter X.env x = pure x := by intro _; rfl) :
    PS X (.Assign [.Name y py] (.DictComp kx vx [⟨tg, iter, ifs, 0⟩] sc p1) p2) (tAsg (tDc wi g tt tk tv (own.map (·.2))) (gName i)) := by
  refine ⟨fun pins s σ H D I h => ?_⟩
  rw [exec_Assign_Name_used _ _ _ _ sw]
  refine wpAny_bind (wpAny_standAt (wpAny_bind ?_))
  show wpAny _ X.A (do let _ ← comprehension (.DictComp kx vx [⟨tg, iter, ifs, 0⟩] sc p1) sc X.env (firstIterPos [⟨tg, iter, ifs, 0⟩] p1) newDict false (eval iter X.env) (some (assign (.Name y py) X.env))) _ _ s
  refine wpAny_bind (thn (dc_core (Qf := fun _ s' => SP X pins D .next s') hc hN I hi ok hg ht hk he hs (show tDc wi g tt tk tv (own.map (·.2)) σ H (fun x H1 => gName i x σ H1 D.nx) from h) fun L C s' m H' I' q hn f => ?_) fun _ s' z => wpAny_pure (wpAny_pure z))
  obtain ⟨f0, f1, f2, f3, f4, f5⟩ := f
  refine wpAny_assign_Name (store_ok2 (v := V.ref L) I' hN hy (.inl hyl) rfl (fun s2 I2 ⟨a, sb, ha⟩ => ⟨m, hn.sameBut sb ?_, fun h3 sb3 => ⟨_, H', I2.turned (t' := s2.toks) (fun b o hb e => (sb3.2 b hb).trans e) f0 f1 f3 f4 f5, q⟩⟩) (.inr hyl))
  rcases ha with z | z
  · rw [z]; exact f1
  · exact fun e => f4 y a z e.symm
end
end Ak
/-! Tests that leave what stands (DecS), that draw only (DecK); displays of data (MkD). -/
namespace Ak
open PySem L2

def DecS (t : TT) (σ : L2.St) (H : Hp) (p : Prop) : Prop := ∀ Q : Bool → Hp → Prop, (∀ H', Same H H' → p → Q true H') → (∀ H', Same H H' → ¬ p → Q false H') → t σ H Q
theorem decS_and {t u : TT} {σ : L2.St} {H : Hp} {p q : Prop} (h1 : DecS t σ H p) (h2 : ∀ H', Same H H' → p → DecS u σ H' q) : DecS (tAnd t u) σ H (p ∧ q) := fun Q a b => h1 _ (fun H1 s1 hp => by
  show u σ H1 Q
  exact h2 H1 s1 hp Q (fun H2 s2 hq => a H2 (s1.trans s2) ⟨hp, hq⟩) fun H2 s2 hq => b H2 (s1.trans s2) fun z => hq z.2) fun H1 s1 hp => by
  show Q false H1
  exact b H1 s1 fun z => hp z.1
theorem decS_or {t u : TT} {σ : L2.St} {H : Hp} {p q : Prop} (h1 : DecS t σ H p) (h2 : ∀ H', Same H H' → ¬ p → DecS u σ H' q) : DecS (tOr t u) σ H (p ∨ q) := fun Q a b => h1 _ (fun H1 s1 hp => by
  show Q true H1
  exact a H1 s1 (.inl hp)) fun H1 s1 hp => by
  show u σ H1 Q
  exact h2 H1 s1 hp Q (fun H2 s2 hq => a H2 (s1.trans s2) (.inr hq)) fun H2 s2 hq => b H2 (s1.trans s2) fun z => z.elim hp hq
theorem decS_if {t : TT} {u v : TS} {D : Ends} {σ : L2.St} {H : Hp} {p : Prop} (h : DecS t σ H p) (h1 : ∀ H', Same H H' → p → u D σ H') (h2 : ∀ H', Same H H' → ¬ p → v D σ H') : tIfS t u v D σ H := h _ (fun H' s hp => iteT (h1 H' s hp)) fun H' s hp => iteF (h2 H' s hp)
theorem decS_eqI {i : Nat} {σ : L2.St} {H : Hp} {x n : Int} (e : σ[i]? = some (some (.int x))) : DecS (tTest (tOp rEq (tVar i) (tC (.int n)))) σ H (x = n) := fun Q a b => ⟨_, e, rfl, _, rfl, by
  by_cases h : x = n
  · rw [decide_eq_true (by rw [h])]; exact a H (Same.refl H) h
  · rw [decide_eq_false (fun z => h (by injection z))]; exact b H (Same.refl H) h⟩
theorem decS_rel {i : Nat} {σ : L2.St} {H : Hp} {x n : Int} {f : Int → Int → Bool} (e : σ[i]? = some (some (.int x))) : DecS (tTest (tOp (rI0 fun i j => V.bl (f i j)) (tVar i) (tC (.int n)))) σ H (f x n = true) := fun Q a b => ⟨_, e, _, _, rfl, rfl, _, rfl, by
  cases h : f x n with
  | true => exact a H (Same.refl H) h
  | false => exact b H (Same.refl H) (by rw [h]; decide)⟩
theorem decS_neNil {K : PySem.W.Frag} {i : Nat} {σ : L2.St} {H : Hp} {p : Addr} {xs : List V} (e : σ[i]? = some (some (.ref p))) (h : H p = some (.lst xs)) : DecS (tTest (tOp (rEqNil K true) (tVar i) (tLst tNil))) σ H (xs ≠ []) := fun Q a b => by
  refine ⟨_, e, Nat.zero_le _, fun z hz => ⟨p, z, _, rfl, rfl, SqL.of ((Same.new hz) _ _ h), SqL.of upd_same, _, rfl, ?_⟩⟩
  cases xs with
  | nil => exact b _ (Same.new hz) fun z => z rfl
  | cons y r => exact a _ (Same.new hz) fun z => nomatch z
theorem decS_eqNil {K : PySem.W.Frag} {i : Nat} {σ : L2.St} {H : Hp} {p : Addr} {xs : List V} (e : σ[i]? = some (some (.ref p))) (h : H p = some (.lst xs)) : DecS (tTest (tOp (rEqNil K false) (tVar i) (tLst tNil))) σ H (xs = []) := fun Q a b => by
  refine ⟨_, e, Nat.zero_le _, fun z hz => ⟨p, z, _, rfl, rfl, SqL.of ((Same.new hz) _ _ h), SqL.of upd_same, _, rfl, ?_⟩⟩
  cases xs with
  | nil => exact a _ (Same.new hz) rfl
  | cons y r => exact b _ (Same.new hz) fun z => nomatch z
def MkD (te : TE) (σ : L2.St) (H0 : Hp) (d : D) : Prop := ∀ H, Same H0 H → ∀ Q : VK, (∀ v H', Same H H' → Rep H' d v → Q v H') → te σ H Q
def MkDs (t : TA) (σ : L2.St) (H0 : Hp) (ds : List D) : Prop := ∀ H, Same H0 H → ∀ Q : List V → Hp → Prop, (∀ vs H', Same H H' → Reps H' ds vs → Q vs H') → t σ H Q
theorem mk_nil {σ : L2.St} {H0 : Hp} : MkDs tNil σ H0 [] := fun H _ Q k => k [] H (Same.refl H) rfl
theorem mk_cons {te : TE} {t : TA} {σ : L2.St} {H0 : Hp} {d : D} {ds : List D} (h : MkD te σ H0 d) (g : MkDs t σ H0 ds) : MkDs (tCons te t) σ H0 (d :: ds) := fun H s Q k => h H s _ fun v H1 s1 r1 => g H1 (s.trans s1) _ fun vs H2 s2 r2 => k (v :: vs) H2 (s1.trans s2) (Reps.cons (r1.mono (TupK.same s2)) r2)
theorem mk_tup {t : TA} {σ : L2.St} {H0 : Hp} {ds : List D} (g : MkDs t σ H0 ds) (hl : ds.length ≤ 1000) : MkD (tTup t) σ H0 (.t ds) := fun H s Q k => g H s _ fun vs H1 s1 r1 => ⟨by rw [Reps.len r1]; exact sz1000 hl, fun p hp => k _ _ (s1.trans (Same.new hp)) (Rep.new hp r1)⟩
theorem mk_str {σ : L2.St} {H0 : Hp} {x : Str} : MkD (tC (V.str x)) σ H0 (.s x) := fun H _ Q k => k _ H (Same.refl H) rfl
theorem mk_int {σ : L2.St} {H0 : Hp} {x : Int} : MkD (tC (V.int x)) σ H0 (.i x) := fun H _ Q k => k _ H (Same.refl H) rfl
theorem mk_vs {σ : L2.St} {H0 : Hp} {i : Nat} {x : Str} (e : σ[i]? = some (some (.str x))) : MkD (tVar i) σ H0 (.s x) := fun H _ Q k => ⟨_, e, k _ H (Same.refl H) rfl⟩
theorem mk_vi {σ : L2.St} {H0 : Hp} {i : Nat} {x : Int} (e : σ[i]? = some (some (.int x))) : MkD (tVar i) σ H0 (.i x) := fun H _ Q k => ⟨_, e, k _ H (Same.refl H) rfl⟩
theorem mk_i2 {ta tb : TE} {σ : L2.St} {H0 : Hp} {x y : Int} {f : Int → Int → Int} (h : MkD ta σ H0 (.i x)) (g : MkD tb σ H0 (.i y)) : MkD (tOp (rI0 fun i j => V.int (f i j)) ta tb) σ H0 (.i (f x y)) := fun H s Q k => h H s _ fun v H1 s1 r1 => g H1 (s.trans s1) _ fun w H2 s2 r2 => by
  cases (show v = _ from r1)
  cases (show w = _ from r2)
  exact ⟨_, _, rfl, rfl, k _ H2 (s1.trans s2) rfl⟩
theorem lst_use {t : TA} {σ : L2.St} {H0 H : Hp} {ds : List D} {Q : VK} (g : MkDs t σ H0 ds) (s : Same H0 H) (hl : ds.length ≤ 1000) (k : ∀ p us H', H p = none → H' p = some (.lst us) → Reps H' ds us → Same H H' → Q (.ref p) H') : tLst t σ H Q :=
  g H s _ fun vs H1 s1 r1 => ⟨by rw [Reps.len r1]; exact sz1000 hl, fun p hp => k p vs _ (s1.free hp) upd_same (r1.mono (TupK.same (Same.new hp))) (s1.trans (Same.new hp))⟩
theorem mk_iC {ta tb : TE} {σ : L2.St} {H0 : Hp} {x y : Int} {C : Int → Int → Prop} {f : Int → Int → Int} (h : MkD ta σ H0 (.i x)) (g : MkD tb σ H0 (.i y)) (c : C x y) : MkD (tOp (rI C fun i j => V.int (f i j)) ta tb) σ H0 (.i (f x y)) := fun H s Q k => h H s _ fun v H1 s1 r1 => g H1 (s.trans s1) _ fun w H2 s2 r2 => by
  cases (show v = _ from r1)
  cases (show w = _ from r2)
  exact ⟨_, _, rfl, rfl, c, k _ H2 (s1.trans s2) rfl⟩
def DecK (d l : Addr) (t : TT) (σ : L2.St) (H : Hp) (pt pf : Prop) : Prop := DealAt H d l → ∀ Q : Bool → Hp → Prop, (∀ H', DealAt H' d l → Kp d l H H' → pt → Q true H') → (∀ H', DealAt H' d l → Kp d l H H' → pf → Q false H') → t σ H Q
theorem decK_of {d l : Addr} {t : TT} {σ : L2.St} {H : Hp} {p : Prop} (h : DecS t σ H p) : DecK d l t σ H p (¬ p) := fun D Q a b => h Q (fun H' s x => a H' (D.same s) (Kp.same s) x) fun H' s x => b H' (D.same s) (Kp.same s) x
theorem decK_or {d l : Addr} {t u : TT} {σ : L2.St} {H : Hp} {p1 f1 p2 f2 : Prop} (h1 : DecK d l t σ H p1 f1) (h2 : ∀ H', DealAt H' d l → Kp d l H H' → f1 → DecK d l u σ H' p2 f2) : DecK d l (tOr t u) σ H (p1 ∨ p2) (f1 ∧ f2) := fun D Q a b => h1 D _ (fun H1 D1 s1 hp => by
  show Q true H1
  exact a H1 D1 s1 (.inl hp)) fun H1 D1 s1 hp => by
  show u σ H1 Q
  exact h2 H1 D1 s1 hp D1 Q (fun H2 D2 s2 hq => a H2 D2 (s1.trans s2) (.inr hq)) fun H2 D2 s2 hq => b H2 D2 (s1.trans s2) ⟨hp, hq⟩
theorem decK_and {d l : Addr} {t u : TT} {σ : L2.St} {H : Hp} {p1 f1 p2 f2 : Prop} (h1 : DecK d l t σ H p1 f1) (h2 : ∀ H', DealAt H' d l → Kp d l H H' → p1 → DecK d l u σ H' p2 f2) : DecK d l (tAnd t u) σ H (p1 ∧ p2) (f1 ∨ f2) := fun D Q a b => h1 D _ (fun H1 D1 s1 hp => by
  show u σ H1 Q
  exact h2 H1 D1 s1 hp D1 Q (fun H2 D2 s2 hq => a H2 D2 (s1.trans s2) ⟨hp, hq⟩) fun H2 D2 s2 hq => b H2 D2 (s1.trans s2) (.inr hq)) fun H1 D1 s1 hp => by
  show Q false H1
  exact b H1 D1 s1 (.inl hp)
theorem decK_if {d l : Addr} {t : TT} {u v : TS} {E : Ends} {σ : L2.St} {H : Hp} {pt pf : Prop} (h : DecK d l t σ H pt pf) (D : DealAt H d l) (h1 : ∀ H', DealAt H' d l → Kp d l H H' → pt → u E σ H') (h2 : ∀ H', DealAt H' d l → Kp d l H H' → pf → v E σ H') : tIfS t u v E σ H := h D _ (fun H' D' s hp => iteT (h1 H' D' s hp)) fun H' D' s hp => iteF (h2 H' D' s hp)
theorem decK_draw {d l : Addr} {σ : L2.St} {H : Hp} {i : Nat} {n c : Int} (e : σ[i]? = some (some (.ref d))) (n1 : 1 ≤ n) (n2 : n < 1073741824) : DecK d l (tTest (tOp rEq (tCall spDraw [] E0 (tCons (tVar i) (tCons (tC (.int n)) tNil))) (tC (.int c)))) σ H True True := fun D Q a b => ⟨_, e, d, l, n, rfl, D, n1, n2, fun r H' _ _ D' k' => ⟨rfl, _, rfl, by
  by_cases h : V.int r = V.int c
  · rw [decide_eq_true h]; exact a H' D' k' trivial
  · rw [decide_eq_false h]; exact b H' D' k' trivial⟩⟩

/-- what a slot holds, of data that stood ahead -/
theorem mk_v {σ : L2.St} {H0 : Hp} {i : Nat} {v : V} {d : D} (e : σ[i]? = some (some v)) (r : Rep H0 d v) : MkD (tVar i) σ H0 d := fun H s _ k => ⟨_, e, k _ H (Same.refl H) (r.mono (TupK.same s))⟩
theorem mk_use {te : TE} {σ : L2.St} {H0 H : Hp} {d : D} {Q : VK} (g : MkD te σ H0 d) (s : Same H0 H) (k : ∀ v H', Same H H' → Rep H' d v → Q v H') : te σ H Q := g H s Q k
theorem le1000 {n : Nat} (h : Nat.ble n 1000 = true := by rfl) : n ≤ 1000 := Nat.le_of_ble_eq_true h
/-- a test of a length -/
theorem decS_len {K : PySem.W.Frag} {i : Nat} {σ : L2.St} {H : Hp} {p : Addr} {xs : List V} {n : Nat} (e : σ[i]? = some (some (.ref p))) (h : H p = some (.lst xs)) : DecS (tTest (tOp rEq (tCB (fun zs H1 Q => ∃ p ys, zs = [V.ref p] ∧ (SqL K H1 p ys ∨ SqT K H1 p ys) ∧ Q (V.int (ys.length : Int)) H1) (tCons (tVar i) tNil)) (tC (.int (n : Int))))) σ H (xs.length = n) := fun Q a b => ⟨_, e, p, xs, rfl, .inl (SqL.of h), rfl, _, rfl, by
  by_cases c : xs.length = n
  · rw [decide_eq_true (by rw [c])]; exact a H (Same.refl H) c
  · rw [decide_eq_false (fun z => c (by injection z with z; omega))]; exact b H (Same.refl H) c⟩
end Ak
/-! list(zip(a, b)), a and b lists: a new list of new tuples -/
namespace Ak
open PySem PySem.Spec PyProof.Rows L2 RT
/-- a zip ahead of its turn k; what it gave out last may still be there -/
def ZSt (z TI TO i1 i2 l1 l2 : Addr) (xs ys : Array Value) (k : Nat) (h : Heap) : Prop :=
  IsPair h TI (.ref i1) (.ref i2) ∧ h.IsListIter i1 l1 k ∧ h.IsListIter i2 l2 k ∧ h.IsList l1 xs ∧ h.IsList l2 ys ∧ (∃ a b, IsPair h TO a b) ∧ (IsZip h z TI TO .none ∨ ∃ (T : Addr) (f : Bool) (oT : Obj), IsZipHeld h z TI TO T f ∧ h.get? T = some oT ∧ T ∉ [z, TI, TO, i1, i2, l1, l2])
theorem lt_z {z TI TO i1 i2 l1 l2 : Addr} {xs ys : Array Value} {k : Nat} {h : Heap} (st : ZSt z TI TO i1 i2 l1 l2 xs ys k h) : z < h.objs.size ∧ TO < h.objs.size := by
  obtain ⟨_, _, _, _, _, ⟨a, b, pTO⟩, zz⟩ := st
  rcases zz with hz | ⟨T, f, oT, hz, _⟩
  · exact ⟨Heap.lt_size hz, Heap.lt_size pTO⟩
  · exact ⟨Heap.lt_size hz, Heap.lt_size pTO⟩
theorem lt_iter {h : Heap} {i l : Addr} {k : Nat} (e : h.IsListIter i l k) : i < h.objs.size := by
  obtain ⟨o, q, _⟩ := e
  exact Heap.lt_size q
theorem lt_list {h : Heap} {l : Addr} {xs : Array Value} (e : h.IsList l xs) : l < h.objs.size := by
  obtain ⟨o, q, _⟩ := e
  exact Heap.lt_size q
theorem keep_iter {h h' : Heap} {i l : Addr} {k : Nat} (e : h.IsListIter i l k) (q : ∀ o, h.get? i = some o → h'.get? i = some o) : h'.IsListIter i l k := e.at q
theorem keep_list {h h' : Heap} {l : Addr} {xs : Array Value} (e : h.IsList l xs) (q : ∀ o, h.get? l = some o → h'.get? l = some o) : h'.IsList l xs := by
  obtain ⟨o, e1, r⟩ := e
  exact ⟨o, q o e1, r⟩
theorem zst_item {P : Program} {w : World} {A : Around} {E : Value → Shared → Prop} {s : Shared} {z TI TO i1 i2 l1 l2 : Addr} {xs ys : Array Value} {k : Nat} {Q : Option Value → Shared → Prop} (D : ZipApart z TI TO i1 i2 l1 l2) (st : ZSt z TI TO i1 i2 l1 l2 xs ys k s.heap) (hk : k < min xs.size ys.size)
    (q : ∀ (h' : Heap) (T : Addr) (x y : Value), xs[k]? = some x → ys[k]? = some y → T = s.heap.objs.size → h'.objs.size = s.heap.objs.size + 1 → ZSt z TI TO i1 i2 l1 l2 xs ys (k + 1) h' → IsPair h' T x y → (∀ b o, b ∉ [z, TO, i1, i2] → s.heap.get? b = some o → h'.get? b = some o) → Q (some (.ref T)) { s with heap := h' }) :
    wpAny (model P w) A (pyNext (.ref z)) Q E s := by
  obtain ⟨p1, j1, j2, q1, q2, ⟨a, b, pTO⟩, zz⟩ := st
  have ex : xs[k]? = some xs[k] := Array.getElem?_eq_getElem (by omega)
  have ey : ys[k]? = some ys[k] := Array.getElem?_eq_getElem (by omega)
  have n1 := lt_iter j1
  have n2 := lt_iter j2
  have m1 := lt_list q1
  have m2 := lt_list q2
  have nTI := Heap.lt_size p1
  have off : ∀ {c : Addr}, c ∉ [z, TO, i1, i2] → c ≠ z ∧ c ≠ TO ∧ c ≠ i1 ∧ c ≠ i2 := fun n => by simpa using n
  rcases zz with hz | ⟨T, f, oT, hz, hT, nT⟩
  · have nz := Heap.lt_size hz
    have nTO := Heap.lt_size pTO
    refine wpAny_pyNext_zip_item D hz p1 pTO j1 j2 q1 q2 ex ey fun h' z1 z2 z3 z4 z5 z6 kp => q h' _ _ _ ex ey rfl z6 ⟨kp TI _ D.TIz D.TITO D.TIi1 D.TIi2 p1, z3, z4, keep_list q1 fun o => kp l1 o D.l1z D.l1TO D.l1i1 D.l1i2, keep_list q2 fun o => kp l2 o D.l2z D.l2TO D.l2i1 D.l2i2, ⟨_, _, z2⟩, .inr ⟨s.heap.objs.size, false, _, z1, z5, ?_⟩⟩ z5 fun c o n e => by
      obtain ⟨o1, o2, o3, o4⟩ := off n
      exact kp c o o1 o2 o3 o4 e
    simp only [List.mem_cons, List.not_mem_nil, or_false, not_or]
    exact ⟨Nat.ne_of_gt nz, Nat.ne_of_gt nTI, Nat.ne_of_gt nTO, Nat.ne_of_gt n1, Nat.ne_of_gt n2, Nat.ne_of_gt m1, Nat.ne_of_gt m2⟩
  · refine wpAny_pyNext_zip_item_held D hz hT p1 j1 j2 q1 q2 ex ey fun h' z1 z3 z4 z5 z6 kp => q h' _ _ _ ex ey rfl z6 ⟨kp TI _ D.TIz D.TIi1 D.TIi2 p1, z3, z4, keep_list q1 fun o => kp l1 o D.l1z D.l1i1 D.l1i2, keep_list q2 fun o => kp l2 o D.l2z D.l2i1 D.l2i2, ⟨a, b, kp TO _ D.TOz D.TOi1 D.TOi2 pTO⟩, .inr ⟨T, true, oT, z1, kp T oT ?_ ?_ ?_ hT, nT⟩⟩ z5 fun c o n e => by
      obtain ⟨o1, o2, o3, o4⟩ := off n
      exact kp c o o1 o3 o4 e
    · exact fun e => nT (by simp [e])
    · exact fun e => nT (by simp [e])
    · exact fun e => nT (by simp [e])
theorem zst_end {P : Program} {w : World} {A : Around} {E : Value → Shared → Prop} {s : Shared} {z TI TO i1 i2 l1 l2 : Addr} {xs ys : Array Value} {k : Nat} {Q : Option Value → Shared → Prop} (hh : A.handled = none) (D : ZipApart z TI TO i1 i2 l1 l2) (st : ZSt z TI TO i1 i2 l1 l2 xs ys k s.heap) (hk : k = min xs.size ys.size)
    (q : ∀ (h' : Heap), (∀ b o, b ∉ [z, TO, i1, i2] → s.heap.get? b = some o → h'.get? b = some o) → Q none { s with heap := h' }) :
    wpAny (model P w) A (pyNext (.ref z)) Q E s := by
  obtain ⟨p1, j1, j2, q1, q2, ⟨a, b, pTO⟩, zz⟩ := st
  have he : xs[k]? = none ∨ ys[k]? = none := by
    by_cases c : xs.size ≤ ys.size
    · exact .inl (Array.getElem?_eq_none (by omega))
    · exact .inr (Array.getElem?_eq_none (by omega))
  have off : ∀ {c : Addr}, c ∉ [z, TO, i1, i2] → c ≠ z ∧ c ≠ TO ∧ c ≠ i1 ∧ c ≠ i2 := fun n => by simpa using n
  rcases zz with hz | ⟨T, f, oT, hz, hT, nT⟩
  · exact wpAny_pyNext_zip_end hh D hz p1 pTO j1 j2 q1 q2 he fun h' kp => q h' fun c o n e => by
      obtain ⟨o1, o2, o3, o4⟩ := off n
      exact kp c o o1 o2 o3 o4 e
  · exact wpAny_pyNext_zip_end_held hh D hz hT p1 j1 j2 q1 q2 he fun h' kp => q h' fun c o n e => by
      obtain ⟨o1, o2, o3, o4⟩ := off n
      exact kp c o o1 o3 o4 e
theorem zst_upd {z TI TO i1 i2 l1 l2 S : Addr} {xs ys : Array Value} {k : Nat} {h h2 : Heap} (st : ZSt z TI TO i1 i2 l1 l2 xs ys k h) (hS : S ∉ [z, TI, TO, i1, i2, l1, l2]) (kp : ∀ b o, b ≠ S → h.get? b = some o → h2.get? b = some o) (eS : ∃ o, h2.get? S = some o) : ZSt z TI TO i1 i2 l1 l2 xs ys k h2 := by
  obtain ⟨p1, j1, j2, q1, q2, ⟨a, b, pTO⟩, zz⟩ := st
  have ne : ∀ {c : Addr}, c ∈ [z, TI, TO, i1, i2, l1, l2] → c ≠ S := fun m e => hS (e ▸ m)
  refine ⟨kp TI _ (ne (by simp)) p1, keep_iter j1 fun o => kp i1 o (ne (by simp)), keep_iter j2 fun o => kp i2 o (ne (by simp)), keep_list q1 fun o => kp l1 o (ne (by simp)), keep_list q2 fun o => kp l2 o (ne (by simp)), ⟨a, b, kp TO _ (ne (by simp)) pTO⟩, ?_⟩
  rcases zz with hz | ⟨T, f, oT, hz, hT, nT⟩
  · exact .inl (kp z _ (ne (by simp)) hz)
  · by_cases c : T = S
    · obtain ⟨o, e⟩ := eS
      exact .inr ⟨T, f, o, kp z _ (ne (by simp)) hz, by rw [c]; exact e, nT⟩
    · exact .inr ⟨T, f, oT, kp z _ (ne (by simp)) hz, kp T _ c hT, nT⟩
theorem size_upd (h : Heap) (S : Addr) (f : Obj → Obj) : (h.update S f).objs.size = h.objs.size := by
  unfold Heap.update
  split <;> simp
theorem zip_loop {P : Program} {w : World} {A : Around} {R : Result → Shared → Prop} {S z TI TO i1 i2 l1 l2 : Addr} {xs ys : Array Value} {res : Value} (hh : A.handled = none) (D : ZipApart z TI TO i1 i2 l1 l2) (hS : S ∉ [z, TI, TO, i1, i2, l1, l2]) (hn : min xs.size ys.size ≤ sizeLine) (base : Nat) :
    ∀ (m k : Nat) (s : Shared) (acc : Array Value) (c : Nat), min xs.size ys.size - k = m → k ≤ min xs.size ys.size → ZSt z TI TO i1 i2 l1 l2 xs ys k s.heap → s.heap.get? S = some { cls := .type "list", data := .seq acc c } → acc.size = k → s.heap.objs.size = base + k →
      (∀ j, j < k → ∃ (x y : Value), acc[j]? = some (.ref (base + j)) ∧ base + j ∉ [S, z, TO, i1, i2] ∧ xs[j]? = some x ∧ ys[j]? = some y ∧ IsPair s.heap (base + j) x y) →
      (∀ (h' : Heap) (acc' : Array Value) (c' : Nat), (∀ b o, b ∉ [S, z, TO, i1, i2] → s.heap.get? b = some o → h'.get? b = some o) → h'.get? S = some { cls := .type "list", data := .seq acc' c' } → acc'.size = min xs.size ys.size →
        (∀ j, j < min xs.size ys.size → ∃ (x y : Value), acc'[j]? = some (.ref (base + j)) ∧ xs[j]? = some x ∧ ys[j]? = some y ∧ IsPair h' (base + j) x y) → R (.ok (.ret res)) { s with heap := h' }) →
      codeAny (model P w) A (Code.builtin "list.extend.loop" { pos := [.ref S, .ref z, res] }) R s := by
  intro m
  induction m with
  | zero =>
    intro k s acc c hm hk st hs ha hb hj fin
    have hk : k = min xs.size ys.size := by omega
    refine codeAny_builtin F.entry_extend_loop ?_
    unfold Builtin.«list.extend.loop»
    refine wpAny_bind (zst_end hh D st hk fun h' kp => wpAny_pure ?_)
    have off : ∀ {b : Addr}, b ∉ [S, z, TO, i1, i2] → b ∉ [z, TO, i1, i2] := fun n m => n (List.mem_cons_of_mem _ m)
    refine fin h' acc c (fun b o n e => kp b o (off n) e) (kp S _ (fun m => hS ?_) hs) (by omega) fun j hj' => ?_
    · simp only [List.mem_cons, List.not_mem_nil, or_false] at m ⊢
      rcases m with e | e | e | e <;> simp [e]
    · obtain ⟨x, y, e1, e2, e3, e4, e5⟩ := hj j (by omega)
      exact ⟨x, y, e1, e3, e4, kp _ _ (off e2) e5⟩
  | succ m ih =>
    intro k s acc c hm hk st hs ha hb hj fin
    refine codeAny_builtin F.entry_extend_loop ?_
    unfold Builtin.«list.extend.loop»
    refine wpAny_bind (zst_item D st (by omega) fun h' T x y ex ey eT z6 st' pT kp => ?_)
    have off : ∀ {b : Addr}, b ∉ [S, z, TO, i1, i2] → b ∉ [z, TO, i1, i2] := fun n m => n (List.mem_cons_of_mem _ m)
    have hS' : S ∉ [z, TO, i1, i2] := fun m => hS (by
      simp only [List.mem_cons, List.not_mem_nil, or_false] at m ⊢
      rcases m with e | e | e | e <;> simp [e])
    have hs' := kp S _ hS' hs
    refine wpAny_bind (m := Builtin.List.listUpdate (.ref S) fun x_1 => x_1.push (.ref T)) ?_
    refine wpAny_updateSeq (f := fun x_1 => x_1.push (.ref T)) hs' rfl ?_
    have hs2 := Heap.get?_update_self (Obj.mapSeq fun x_1 => x_1.push (.ref T)) hs' rfl
    have oth : ∀ {b : Addr} {o : Obj}, b ≠ S → h'.get? b = some o → (h'.update S (Obj.mapSeq fun x_1 => x_1.push (.ref T))).get? b = some o := fun nb e => by
      rw [Heap.get?_update_other _ _ (Ne.symm nb)]; exact e
    have nS : ∀ {b : Addr}, b ∉ [S, z, TO, i1, i2] → b ≠ S := fun n e => n (by simp [e])
    have lz := lt_z st
    have nT : T ∉ [S, z, TO, i1, i2] := by
      simp only [List.mem_cons, List.not_mem_nil, or_false, not_or]
      rw [eT]
      exact ⟨Nat.ne_of_gt (Heap.lt_size hs), Nat.ne_of_gt lz.1, Nat.ne_of_gt lz.2, Nat.ne_of_gt (lt_iter st.2.1), Nat.ne_of_gt (lt_iter st.2.2.1)⟩
    refine wpAny_pure ⟨plainId_quiet F.plain_extend_loop _, ih (k + 1) _ (acc.push (.ref T)) _ (by omega) (by omega) (zst_upd st' hS (fun b o nb e => oth nb e) ⟨_, hs2⟩) hs2 (by rw [Array.size_push, ha]) (by rw [size_upd]; show h'.objs.size = _; rw [z6, hb]; omega) (fun j hj' => ?_) fun h'' acc' c'' kp'' e1 e2 e3 => fin h'' acc' c'' (fun b o n e => kp'' b o n (oth (nS n) (kp b o (off n) e))) e1 e2 e3⟩
    by_cases c : j = k
    · subst c
      have eb : T = base + acc.size := by rw [eT, hb, ha]
      rw [← ha]
      rw [eb] at nT pT oth
      rw [ha] at nT pT
      exact ⟨x, y, by rw [eb, Array.getElem?_push_size], by rw [ha]; exact nT, by rw [ha]; exact ex, by rw [ha]; exact ey, by rw [ha, eb]; exact oth (nS nT) pT⟩
    · obtain ⟨xj, yj, g1, g2, g3, g4, g5⟩ := hj j (by omega)
      refine ⟨xj, yj, ?_, g2, g3, g4, oth (nS g2) (kp _ _ (off g2) g5)⟩
      rw [Array.getElem?_push_lt (by omega)]
      rw [← g1, Array.getElem?_eq_getElem (by omega)]
theorem nolen_zip : typeLookup (Value.type "zip") (Str.ofString "__len__") = pure none := by kernel_rfl
theorem nohint_zip : typeLookup (Value.type "zip") (Str.ofString "__length_hint__") = pure none := by kernel_rfl
/-- the new list's maker, called on a zip of two lists -/
theorem list_of_zip {P : Program} {w : World} {B : Around} {X : Value → Shared → Prop} {q : Shared} {Want : Value → Shared → Prop} {z TI TO i1 i2 l1 l2 : Addr} {xs ys : Array Value} (calm : B.handled = none) (small : min xs.size ys.size ≤ sizeLine) (D : ZipApart z TI TO i1 i2 l1 l2) (st : ZSt z TI TO i1 i2 l1 l2 xs ys 0 q.heap) (hz0 : IsZip q.heap z TI TO .none)
    (goal : ∀ (g : Heap) (got : Array Value) (c tk : Nat), (∀ b o, b ∉ [z, TO, i1, i2] → q.heap.get? b = some o → g.get? b = some o) → g.get? q.heap.objs.size = some { cls := .type "list", dict := none, data := .seq got c, slots := #[] } → got.size = min xs.size ys.size →
      (∀ j, j < min xs.size ys.size → ∃ (x y : Value), got[j]? = some (.ref (q.heap.objs.size + 1 + j)) ∧ xs[j]? = some x ∧ ys[j]? = some y ∧ IsPair g (q.heap.objs.size + 1 + j) x y) → Want (.ref q.heap.objs.size) { q with heap := g, toks := tk }) : wpAny (model P w) B (call (.type "list") [.ref z]) Want X q := by
  have lz := lt_z st
  have n1 := lt_iter st.2.1
  have n2 := lt_iter st.2.2.1
  have m1 := lt_list st.2.2.2.1
  have m2 := lt_list st.2.2.2.2.1
  have nTI := Heap.lt_size st.1
  refine callType_codes F.called_list (F.typeCall_list_1 _) F.entry_list_init (code_list_new (Q₁ := fun r t => r = .ref q.heap.objs.size ∧ t = { q with heap := q.heap.push { cls := .type "list", data := .seq #[] } }) _ ⟨rfl, rfl⟩) ?_
  rintro _ _ ⟨rfl, rfl⟩
  have new0 := Heap.get?_push_size (o := ({ cls := .type "list", data := .seq #[] } : Obj)) q.heap rfl
  refine ⟨⟨_, new0, rfl⟩, F.args_list_init_2 _ _, ?_⟩
  have sz : (q.heap.push { cls := .type "list", data := .seq #[] }).objs.size = q.heap.objs.size + 1 := by
    show (Array.push _ _).size = _
    rw [Array.size_push]
  have hS : q.heap.objs.size ∉ [z, TI, TO, i1, i2, l1, l2] := by
    simp only [List.mem_cons, List.not_mem_nil, or_false, not_or]
    exact ⟨Nat.ne_of_gt lz.1, Nat.ne_of_gt nTI, Nat.ne_of_gt lz.2, Nat.ne_of_gt n1, Nat.ne_of_gt n2, Nat.ne_of_gt m1, Nat.ne_of_gt m2⟩
  have st1 : ZSt z TI TO i1 i2 l1 l2 xs ys 0 (q.heap.push { cls := .type "list", data := .seq #[] }) := zst_upd st hS (fun b o _ e => Heap.get?_push_of_some _ e) ⟨_, new0⟩
  have zS : z ≠ q.heap.objs.size := Nat.ne_of_lt lz.1
  have hz1 : IsZip (q.heap.push { cls := .type "list", data := .seq #[] }) z TI TO .none := Heap.get?_push_of_some _ hz0
  have old : ∀ {b : Addr} {o : Obj}, q.heap.get? b = some o → b ≠ q.heap.objs.size := fun e => Nat.ne_of_lt (Heap.lt_size e)
  generalize hz : q.heap.objs.size = S at *
  have same : ∀ {b : Addr} {o : Obj} {f : Obj → Obj} {h : Heap}, b ≠ S → h.get? b = some o → (h.update S f).get? b = some o := fun nb e => by
    rw [Heap.get?_update_other _ _ (Ne.symm nb)]; exact e
  refine wpAny_bind (m := Builtin.List.listItems (.ref S)) ?_
  unfold Builtin.List.listItems; refine wpAny_bind (wpAny_seqItems new0 rfl (wpAny_pure ?_))
  refine wpAny_bind (m := Builtin.List.listUpdate (.ref S) fun _ => #[]) ?_
  refine wpAny_updateSeq (f := fun _ => #[]) new0 rfl (wpAny_bind (wpAny_letGo ?_))
  have new1 := Heap.get?_update_self (Obj.mapSeq fun _ => #[]) new0 rfl
  have st2 := zst_upd st1 hS (fun b o nb e => same (f := Obj.mapSeq fun _ => #[]) nb e) ⟨_, new1⟩
  have hz2 : IsZip ((q.heap.push { cls := .type "list", data := .seq #[] }).update S (Obj.mapSeq fun _ => #[])) z TI TO .none := same zS hz1
  have ty : Shared.TypeIs { q with heap := (q.heap.push { cls := .type "list", data := .seq #[] }).update S (Obj.mapSeq fun _ => #[]) } (.ref z) "zip" := ⟨_, hz2, rfl⟩
  have other : Builtin.List.listSameRef (.ref S) (.ref z) = false := by simp [Builtin.List.listSameRef, zS.symm]
  dsimp only
  unfold Builtin.List.listExtendWith; refine wpAny_bind (wpAny_typeOf ty ?_); rw [if_neg (by rw [other]; decide)]
  refine wpAny_bind (wpAny_pyIter_zip (s := { q with heap := (q.heap.push { cls := .type "list", data := .seq #[] }).update S (Obj.mapSeq fun _ => #[]) }) hz2 (wpAny_bind (wpAny_holding ?_)))
  unfold Builtin.List.listLengthHint; refine wpAny_bind (wpAny_specialOf ty nolen_zip (wpAny_bind (m := specialOf (.ref z) (Str.ofString "__length_hint__")) (wpAny_specialOf ty nohint_zip ?_)))
  refine wpAny_pure ?_
  rw [if_pos (by rfl)]
  refine wpAny_bind (wpAny_rule ?_)
  unfold Builtin.List.listTouch
  refine wpAny_bind ?_
  refine wpAny_bind (m := Builtin.List.listUpdate (.ref S) fun x => x.push .none) ?_
  refine wpAny_updateSeq (f := fun x => x.push .none) new1 rfl ?_
  have new2 := Heap.get?_update_self (Obj.mapSeq fun x => x.push .none) new1 rfl
  have st3 := zst_upd st2 hS (fun b o nb e => same (f := Obj.mapSeq fun x => x.push .none) nb e) ⟨_, new2⟩
  refine wpAny_updateSeq (f := fun x => x.pop) new2 rfl ?_
  have new3 := Heap.get?_update_self (Obj.mapSeq fun x => x.pop) new2 rfl
  have st4 := zst_upd st3 hS (fun b o nb e => same (f := Obj.mapSeq fun x => x.pop) nb e) ⟨_, new3⟩
  have calm' : (B.in1).handled = none := calm
  refine wpAny_pure ⟨plainId_quiet F.plain_extend_loop _, zip_loop calm' D hS small (S + 1) _ 0 _ _ _ rfl (Nat.zero_le _) st4 new3 (by simp) (by
    show ((((q.heap.push _).update S _).update S _).update S _).objs.size = _
    rw [size_upd, size_upd, size_upd, sz]) (fun j h => absurd h (Nat.not_lt_zero _)) fun h' acc' c' kp e1 e2 e3 => ?_⟩
  refine ⟨rfl, goal h' acc' c' _ (fun b o n e => kp b o (fun m => ?_) (same (old e) (same (old e) (same (old e) (Heap.get?_push_of_some _ e))))) e1 e2 e3⟩
  rcases List.mem_cons.mp m with x | x
  · exact old e x
  · exact n x
theorem vals_refs : ∀ ts : List Nat, Vals (ts.map V.ref) (ts.map Value.ref)
  | [] => .nil
  | _ :: r => .cons rfl (vals_refs r)
def tLstZip (K : PySem.W.Frag) (ta : TA) : TE := fun σ H Q => ta σ H fun vs H1 => ∃ (a b : Addr) (xs ys : List V), vs = [.ref a, .ref b] ∧ SqL K H1 a xs ∧ SqL K H1 b ys ∧ min xs.length ys.length ≤ 1000 ∧ ∀ (q : Addr) (ts : List Addr) (H' : Hp), H1 q = none → Same H1 H' → H' q = some (.lst (ts.map V.ref)) → ts.length = min xs.length ys.length → (∀ (j : Nat) (T : Addr) (x y : V), ts[j]? = some T → xs[j]? = some x → ys[j]? = some y → H' T = some (.tup [x, y])) → Q (.ref q) H'
theorem pe_lstZip {X : Cx} {e e2 : Expr} {ta : TA} {p p2 pos pos2 : Pos} (calm : X.calm = true) (g1 : Gl X "list") (m1 : X.mg "list" = none) (g2 : Gl X "zip") (m2 : X.mg "zip" = none) (ha : PA X [e, e2] ta)
    (hs : starEach [e, e2] X.env = (false, eval e X.env) :: starEach [e2] X.env := by rfl) (hpl : (backTo pos2 (starEach [e2] X.env)).any (·.1) = false := by rfl)
    (two : starEach [.Call (.Name "zip" p2) [e, e2] [] pos2] X.env = [(false, eval (.Call (.Name "zip" p2) [e, e2] [] pos2) X.env)] := by rfl) :
    PE X (.Call (.Name "list" p) [.Call (.Name "zip" p2) [e, e2] [] pos2] [] pos) (tLstZip X.K ta) := by
  constructor
  intro pins s σ H Q I reading
  refine Call_ (ld_blt I g1 m1 PyProof.Rows.boot_list (PyProof.Rows.callWith_type1 (args_cons (Call_ ?_) two) two rfl))
  refine ld_blt I g2 m2 PyProof.Rows.boot_zip (PyProof.Rows.callWith_type1 (thn (ha.run pos2 pins s σ H _ I reading) fun _ s1 ⟨vs, H1, I1, r1, q1⟩ => ?_) hs hpl)
  obtain ⟨a, b, xs, ys, ex, hqx, hqy, hsm, rest⟩ := q1
  subst ex
  cases r1 with
  | cons r rr =>
    cases rr with
    | cons r' rr =>
      cases rr
      cases r
      cases r'
      obtain ⟨ua, wa, p1, _⟩ := I1.list hqx
      obtain ⟨ub, wb, p2, _⟩ := I1.list hqy
      have sza : a < s1.heap.objs.size := p1.lt
      have szb : b < s1.heap.objs.size := p2.lt
      refine zip_begins2 (begins_list a _) (begins_list b _) p1.isList p2.isList fun h' hz hTI hTO h1 h2 hsz hk => args_nil ?_
      have l1 := wa.length
      have l2 := wb.length
      have z1 : ua.toArray.size = ua.length := by simp
      have z2 : ub.toArray.size = ub.length := by simp
      generalize hN : s1.heap.objs.size = N at *
      have D : ZipApart (N + 4) (N + 2) (N + 3) N (N + 1) a b := by
        constructor
        all_goals first | exact Nat.ne_of_lt (by omega) | exact Nat.ne_of_gt (by omega) | exact Nat.ne_of_lt (Nat.lt_of_lt_of_le ‹_› (by omega)) | exact Nat.ne_of_lt (by assumption)
      have st : ZSt (N + 4) (N + 2) (N + 3) N (N + 1) a b ua.toArray ub.toArray 0 h' := ⟨hTI, ⟨_, h1, rfl, rfl⟩, ⟨_, h2, rfl, rfl⟩, keep_list p1.isList fun o => hk a o, keep_list p2.isList fun o => hk b o, ⟨_, _, hTO⟩, .inl hz⟩
      have grown := I1.kept (h' := h') (t' := s1.toks) hk
      have hn : min ua.toArray.size ub.toArray.size = min xs.length ys.length := by omega
      refine list_of_zip (q := { s1 with heap := h' }) (I1.ok.hd calm) (sz1000 (by omega)) D st hz fun g got c tk kp made gsz items => ?_
      rw [hn] at gsz items
      rw [hsz] at made items ⊢
      generalize hm : min xs.length ys.length = n at *
      let H' : Hp := fun b => if b = N + 5 then some (.lst (((List.range n).map fun j => N + 6 + j).map V.ref)) else if N + 6 ≤ b ∧ b < N + 6 + n then some (.tup [(xs[b - (N + 6)]?).getD .non, (ys[b - (N + 6)]?).getD .non]) else H1 b
      have hH : ∀ b o, H1 b = some o → b < N := fun b o e => Nat.lt_of_not_le fun c => by
        rw [I1.hok.fresh (by rw [hN]; exact c)] at e; cases e
      have lowH : ∀ b, b < N + 5 → H' b = H1 b := fun b l => by
        show (if b = N + 5 then _ else if N + 6 ≤ b ∧ b < N + 6 + n then _ else H1 b) = _
        rw [if_neg (Nat.ne_of_lt l), if_neg (fun z => absurd (Nat.lt_of_lt_of_le l (Nat.le_trans (by omega) z.1)) (Nat.lt_irrefl _))]
      have oldH : ∀ b o, H1 b = some o → H' b = some o := fun b o e => by
        rw [lowH b (Nat.lt_trans (hH b o e) (by omega))]; exact e
      have free : ∀ b, N ≤ b → FpOk X pins H1 b := fun b l => I1.fpOk (by rw [hN]; exact l) (I1.hok.fresh (by rw [hN]; exact l))
      have offL : ∀ {b : Addr} {o : HO}, H1 b = some o → b ∉ [N + 4, N + 3, N, N + 1] := fun e m => by
        have l := hH _ _ e
        simp only [List.mem_cons, List.not_mem_nil, or_false] at m
        rcases m with rfl | rfl | rfl | rfl
        · exact absurd l (Nat.not_lt_of_le (by omega))
        · exact absurd l (Nat.not_lt_of_le (by omega))
        · exact absurd l (Nat.lt_irrefl _)
        · exact absurd l (Nat.not_lt_of_le (by omega))
      have atS : H' (N + 5) = some (.lst (((List.range n).map fun j => N + 6 + j).map V.ref)) := if_pos rfl
      have atT : ∀ j, j < n → H' (N + 6 + j) = some (.tup [(xs[j]?).getD .non, (ys[j]?).getD .non]) := fun j hj => by
        show (if N + 6 + j = N + 5 then _ else if N + 6 ≤ N + 6 + j ∧ N + 6 + j < N + 6 + n then _ else H1 _) = _
        rw [if_neg (by omega), if_pos ⟨by omega, by omega⟩, show N + 6 + j - (N + 6) = j by omega]
      have held : HOk X.prog X.w H' g := by
        intro b u e
        by_cases eb : b = N + 5
        · subst eb
          rw [atS] at e; cases e
          refine ⟨?_, got.toList, c, ?_, by simpa using made⟩
          · rw [List.length_map, List.length_map, List.length_range]; exact sz1000 hsm
          · have eg : got.toList = ((List.range n).map fun j => N + 6 + j).map Value.ref := by
              refine List.ext_getElem? fun j => ?_
              by_cases hj : j < n
              · obtain ⟨x, y, e1, _⟩ := items j hj
                rw [Array.getElem?_toList, e1, List.getElem?_map, List.getElem?_map, List.getElem?_range hj]; rfl
              · rw [List.getElem?_eq_none (by rw [Array.length_toList]; omega), List.getElem?_eq_none (by rw [List.length_map, List.length_map, List.length_range]; omega)]
            rw [eg]
            exact vals_refs _
        · by_cases er : N + 6 ≤ b ∧ b < N + 6 + n
          · obtain ⟨j, rfl⟩ := Nat.exists_eq_add_of_le er.1
            have hj : j < n := Nat.lt_of_add_lt_add_left er.2
            rw [atT j hj] at e; cases e
            obtain ⟨x, y, _, gx, gy, gp⟩ := items j hj
            have ex : xs[j]? = some xs[j] := List.getElem?_eq_getElem (by omega)
            have ey : ys[j]? = some ys[j] := List.getElem?_eq_getElem (by omega)
            obtain ⟨v1, hv1, r1⟩ := wa.get ex
            obtain ⟨v2, hv2, r2⟩ := wb.get ey
            have q1 : v1 = x := Option.some.inj (hv1.symm.trans (by simpa using gx))
            have q2 : v2 = y := Option.some.inj (hv2.symm.trans (by simpa using gy))
            subst q1 q2
            rw [ex, ey]
            exact ⟨by show 2 ≤ sizeLine; decide, [v1, v2], .cons r1 (.cons r2 .nil), ⟨_, gp, rfl, _, rfl⟩⟩
          · have e : H1 b = some u := by
              have : H' b = H1 b := by
                show (if b = N + 5 then _ else if N + 6 ≤ b ∧ b < N + 6 + n then _ else H1 b) = _
                rw [if_neg eb, if_neg er]
              rw [this] at e; exact e
            exact (grown.hok b u e).stay (fun d v at_ q => kp d v (at_.elim (fun x => x ▸ offL e) fun x => offL x) q) (fun d q => oldH _ _ q) fun d ys q => oldH _ _ q
      refine ⟨.ref (N + 5), H', grown.step (ch := [N + 4, N + 3, N, N + 1]) (g' := s1.gens) (d' := s1.drawn) (t' := tk) ?_ (fun b o _ _ n e _ => kp b o n e) (fun b o _ _ n e _ => ⟨_, kp b o n e⟩) (fun b o n e he => by
        have l := Heap.lt_size e
        rw [hsz] at l
        rw [lowH b l]; exact he) (fun b o n e => ⟨o, kp b o n e⟩) (fun b ys e => oldH _ _ e) (fun b o u e => oldH _ _ e) (fun b ps e => ⟨#[], by rw [oldH _ _ e, Array.append_empty]⟩) ?_ held I1.bare, rfl, rest (N + 5) ((List.range n).map fun j => N + 6 + j) H' (I1.hok.fresh (by rw [hN]; show N ≤ N + 5; omega)) (fun b o e => oldH b o e) atS (by rw [List.length_map, List.length_range]) fun j T x y e1 e2 e3 => ?_⟩
      · intro b m
        have l : N ≤ b := by
          simp only [List.mem_cons, List.not_mem_nil, or_false] at m
          rcases m with rfl | rfl | rfl | rfl
          · exact Nat.le_add_right _ _
          · exact Nat.le_add_right _ _
          · exact Nat.le_refl _
          · exact Nat.le_add_right _ _
        exact ⟨(free b l).2.2.2.1, (free b l).2.1, (free b l).2.2.2.2⟩
      · rintro m ⟨o, es, ep, e, r⟩
        refine ⟨o, es, ep, kp _ o (fun z => ?_) e, r⟩
        have l : N ≤ X.env.locals := by
          simp only [List.mem_cons, List.not_mem_nil, or_false] at z
          rcases z with h | h | h | h
          · rw [h]; exact Nat.le_add_right _ _
          · rw [h]; exact Nat.le_add_right _ _
          · rw [h]; exact Nat.le_refl _
          · rw [h]; exact Nat.le_add_right _ _
        exact (free _ l).2.1 rfl
      · rw [List.getElem?_map] at e1
        obtain ⟨j', hj', rfl⟩ := Option.map_eq_some_iff.mp e1
        have hj : j < n ∧ j' = j := by
          have := List.getElem?_eq_some_iff.mp hj'
          obtain ⟨l, e⟩ := this
          rw [List.length_range] at l
          rw [List.getElem_range] at e
          exact ⟨l, e.symm⟩
        rw [hj.2, atT j hj.1, e2, e3]; rfl
end Ak
namespace Ak
open PySem L2
def top (i : Nat) : Stmt := PySem.Challenge.pw_askladder_k10_parts_and_pieces.main.body.getD i (.Pass ⟨0, 0, 0, 0⟩)
end Ak
namespace Ak
open PySem L2
local macro_rules | `(tactic| walk_at "no attr") => `(tactic| exact rwF_no _ _ _ (by decide +kernel) (by decide +kernel) (by decide +kernel))
/-! ### a row by its name -/
abbrev st_row_named : Stmt := top 5
theorem sc_row_named : FnScope ["rows", "name", "row"] ["rows", "name"] (defScope st_row_named) := ⟨rfl, rfl, rfl, by decide +kernel, rfl, by decide +kernel, by decide +kernel⟩
def selN (x : Str) (ps : List (Str × V)) : List V := (ps.filter fun q => decide (q.1 = x)).map (·.2)
theorem selN_snoc (x : Str) (ps : List (Str × V)) (q : Str × V) : selN x (ps ++ [q]) = selN x ps ++ if q.1 = x then [q.2] else [] := by
  unfold selN
  rw [List.filter_append, List.map_append]
  by_cases h : q.1 = x
  · rw [if_pos h]; simp [h]
  · rw [if_neg h]; simp [h]
theorem at0 (v : V) (t : List V) : atI (v :: t) 0 = some v := by
  unfold atI ixN
  rw [if_pos (by decide), if_pos (by rw [List.length_cons]; omega)]
  rfl
theorem sqT_same {K : PySem.W.Frag} {H H' : Hp} {a : Addr} {xs : List V} (s : Same H H') (h : SqT K H a xs) : SqT K H' a xs := by
  rcases h with (h | h) | h
  · exact .inl (.inl (s _ _ h))
  · exact .inl (.inr (by first | exact s _ _ h | exact h | (obtain ⟨i, hi⟩ := h; exact ⟨i, s _ _ hi⟩) | (obtain ⟨i, j, hi⟩ := h; exact ⟨i, j, s _ _ hi⟩)))
  · exact .inr h
def spRowN (K : PySem.W.Frag) : Sp := fun vs H Q _ => ∃ (R : Addr) (x : Str) (ps : List (Str × V)) (v : V), vs = [.ref R, .str x] ∧ SqT K H R (ps.map (·.2)) ∧ (∀ q ∈ ps, ∃ a rest, q.2 = .ref a ∧ H a = some (.tup (V.str q.1 :: rest))) ∧ ps.length ≤ 1000 ∧ (∃ t, selN x ps = v :: t) ∧ ∀ H', Same H H' → Q v H'
section
variable {P : Program} {w : World} {K : PySem.W.Frag} {mg : Str → Option Value} {base : Heap}
theorem ok_row_named {f : Addr} {fd : FuncData} (D : Fn K mg "row_named" st_row_named ["rows", "name"] f fd) : FnOk P w K mg base CX0 1 f fd ["rows", "name"] (spRowN K) := by
  refine D.F.ok sc_row_named (fun vs H Q E h => ?_) (fun cdv A outer s H vs Q E hr h => ?_)
  · obtain ⟨R, x, ps, v, rfl, _⟩ := h
    rfl
  · obtain ⟨R, x, ps, v, rfl, hR, hp, hl, ⟨t, hv⟩, k⟩ := h
    refine ⟨_, (pss_one (ps_ret (pe_ix ix_list (pe_lc (own := [("row", 2)]) (g := gName 2) (tt := tTest (tOp rEq (tOp (rIxT K) (tVar 2) (tC (V.int 0))) (tVar 1))) (te := (tVar 2)) rfl sc_row_named.nd (pi_tup (pv 0)) (blkOk_by (own := [("row", 2)]) (N := ["rows", "name", "row"]) (sc := defScope st_row_named) (by decide +kernel)) (fun _ _ _ _ _ => (pg_name (i := 2) sc_row_named.nd rfl (Or.inl rfl))) (fun _ _ _ _ _ => (pts_one (pt_cmpR op_eq (pe_ix ix_tup (pv 2) pe_int (fun _ _ => rfl)) (pv 1) (nomark _)))) (fun _ _ _ _ _ => (pv 2))) pe_int (fun _ _ => rfl)))), ?_⟩
    refine ⟨_, rfl, R, rfl, ⟨_, hR⟩, fun L hL => lc_it walk_tup (fun i J => Same H J ∧ J L = some (.lst (selN x (ps.take i)))) ⟨Same.new hL, upd_same⟩ (fun i J _ z => sqT_same z.1 hR) (fun i y J J1 hi z yy => ?_) fun J z => ?_⟩
    · obtain ⟨rfl, hy⟩ := yy
      obtain ⟨sm, hJ⟩ := z
      rw [List.length_map] at hi
      have eq : ps[i]? = some ps[i] := List.getElem?_eq_getElem hi
      have hm := List.mem_of_getElem? eq
      generalize ps[i] = q at eq hm
      have hy' : (ps.map (·.2))[i]? = some y := hy
      rw [List.getElem?_map, eq] at hy'
      obtain rfl : q.2 = y := Option.some.inj hy'
      obtain ⟨a, rest, ea, ha⟩ := hp q hm
      have e3 : selN x (ps.take (i + 1)) = selN x (ps.take i) ++ if q.1 = x then [q.2] else [] := by
        rw [List.take_add_one, eq]; exact selN_snoc x _ q
      refine ⟨rfl, ?_⟩
      refine ⟨_, rfl, a, V.str q.1 :: rest, 0, V.str q.1, ea, rfl, SqT.of (sm _ _ ha), at0 _ _, _, rfl, rfl, _, rfl, ite2 (fun c => ?_) fun c => ?_⟩
      · have c' : q.1 = x := by have := of_decide_eq_true c; injection this
        refine ⟨_, rfl, _, hJ, ?_, fun b o e => ?_, ?_⟩
        · exact Nat.lt_of_le_of_lt (by unfold selN; rw [List.length_map]; exact Nat.le_trans (List.length_filter_le _ _) (by rw [List.length_take]; omega) : _ ≤ 1000) (by decide)
        · rw [upd_ne (ne_of_none e hL)]; exact sm b o e
        · rw [upd_same, e3, if_pos c']
      · have c' : ¬ q.1 = x := fun z => c (decide_eq_true (by rw [z]))
        exact ⟨sm, by rw [e3, if_neg c', List.append_nil]; exact hJ⟩
    · obtain ⟨sm, hJ⟩ := z
      rw [List.length_map, List.take_length, hv] at hJ
      exact ⟨L, _, 0, v, rfl, rfl, SqL.of hJ, at0 _ _, k J sm⟩
end
end Ak
namespace Ak
open PySem L2
local macro_rules | `(tactic| walk_at "no attr") => `(tactic| exact rwF_no _ _ _ (by decide +kernel) (by decide +kernel) (by decide +kernel))
/-! ### bodies as trees of pieces -/
abbrev st_bodies_of : Stmt := top 1
theorem sc_bodies_of : FnScope ["piece", "sort"] ["piece"] (defScope st_bodies_of) := ⟨rfl, rfl, rfl, by decide +kernel, rfl, by decide +kernel, by decide +kernel⟩
inductive PT where
  | give (ds : List D) | one (s : Str) (ds : List D) (b : PT) | ifs (a : D) (b c : PT) | cas (r : D) (b : PT) (x y : D) (c : PT)
def PT.d : PT → D
  | .give ds => .t (.s "give" :: ds)
  | .one s ds b => .t (.s s :: (ds ++ [b.d]))
  | .ifs a b c => .t [.s "if", a, b.d, c.d]
  | .cas r b x y c => .t [.s "case", r, b.d, x, y, c.d]
def PT.Ok : PT → Prop
  | .give _ => True
  | .one s _ b => (s ≠ "give" ∧ s ≠ "if" ∧ s ≠ "case") ∧ b.Ok
  | .ifs _ b c => b.Ok ∧ c.Ok
  | .cas _ b _ _ c => b.Ok ∧ c.Ok
def PT.kids : PT → List PT
  | .give _ => []
  | .one _ _ b => [b]
  | .ifs _ b c => [b, c]
  | .cas _ b _ _ c => [b, c]
def spBodies : Sp := fun vs H Q _ => ∃ (v : V) (t : PT), vs = [v] ∧ Rep H t.d v ∧ t.Ok ∧ ∀ (q : Addr) (us : List V) (H' : Hp), H q = none → H' q = some (.lst us) → Reps H' (t.kids.map PT.d) us → Same H H' → Q (.ref q) H'
theorem reps_last {H : Hp} {d : D} : ∀ {ds : List D} {vs : List V}, Reps H (ds ++ [d]) vs → ∃ us v, vs = us ++ [v] ∧ Rep H d v
  | [], vs, ⟨v, r, e1, h1, h2⟩ => ⟨[], v, by rw [e1, show r = [] from h2]; rfl, h1⟩
  | _ :: _, vs, ⟨v, r, e1, h1, h2⟩ => by
    obtain ⟨us, u, e, h⟩ := reps_last h2
    exact ⟨v :: us, u, by rw [e1, e]; rfl, h⟩
theorem at_nat (vs : List V) (i : Nat) {v : V} (h : vs[i]? = some v) : atI vs (i : Int) = some v := atI_nat h
theorem at_last (vs : List V) (v : V) : atI (vs ++ [v]) (-1) = some v := by
  unfold atI ixN
  rw [if_neg (by decide), List.length_append, List.length_cons, List.length_nil, if_pos (by omega)]
  show (vs ++ [v])[(-1 + ((vs.length + 1 : Nat) : Int)).toNat]? = some v
  rw [show (-1 + ((vs.length + 1 : Nat) : Int)).toNat = vs.length by omega]
  simp
section
variable {P : Program} {w : World} {K : PySem.W.Frag} {mg : Str → Option Value} {base : Heap}
theorem ok_bodies_of {f : Addr} {fd : FuncData} (D : Fn K mg "bodies_of" st_bodies_of ["piece"] f fd) : FnOk P w K mg base CX0 1 f fd ["piece"] spBodies := by
  refine D.F.ok sc_bodies_of (fun vs H Q E h => ?_) (fun cdv A outer s H vs Q E hr h => ?_)
  · obtain ⟨v, t, rfl, _⟩ := h
    rfl
  · obtain ⟨v, t, rfl, hv, ok, k⟩ := h
    refine ⟨_, (pss_cons (ps_set (i := 1) sc_bodies_of.nd rfl (Or.inl rfl) (pe_ix ix_tup (pv 0) pe_int (fun _ _ => rfl)))
      (pss_cons (ps_if (pt_cmpR op_eq (pv 1) pe_str (nomark _)) (pss_one (ps_ret (pe_lst pa_nil))) pss_nil)
      (pss_cons (ps_if (pt_cmpR op_eq (pv 1) pe_str (nomark _)) (pss_one (ps_ret (pe_lst (pa_cons (pe_ix ix_tup (pv 0) pe_int (fun _ _ => rfl)) (pa_cons (pe_ix ix_tup (pv 0) pe_int (fun _ _ => rfl)) pa_nil))))) pss_nil)
      (pss_cons (ps_if (pt_cmpR op_eq (pv 1) pe_str (nomark _)) (pss_one (ps_ret (pe_lst (pa_cons (pe_ix ix_tup (pv 0) pe_int (fun _ _ => rfl)) (pa_cons (pe_ix ix_tup (pv 0) pe_int (fun _ _ => rfl)) pa_nil))))) pss_nil)
      (pss_one (ps_ret (pe_lst (pa_cons (pe_ix ix_tup (pv 0) (pe_un un_neg pe_int) (fun _ _ => rfl)) pa_nil)))))))), ?_⟩
    cases t with
    | give ds =>
      obtain ⟨p, vs, rfl, hp, _, r, rfl, rfl, hr'⟩ := hv
      refine ⟨_, rfl, p, _, 0, _, rfl, rfl, SqT.of hp, at0 _ _, ?_⟩
      refine ⟨_, rfl, rfl, _, rfl, ite2 (fun _ => ?_) fun c => absurd (decide_eq_true rfl) c⟩
      exact ⟨Nat.zero_le _, fun q hq => k q [] _ hq upd_same rfl (Same.new hq)⟩
    | one s ds b =>
      obtain ⟨p, _, rfl, hp, _, r, rfl, rfl, hr'⟩ := hv
      obtain ⟨⟨n1, n2, n3⟩, _⟩ := ok
      obtain ⟨us, vb, rfl, rb⟩ := reps_last hr'
      refine ⟨_, rfl, p, _, 0, _, rfl, rfl, SqT.of hp, at0 _ _, ?_⟩
      refine ⟨_, rfl, rfl, _, rfl, ite2 (fun c => absurd (V.str.inj (of_decide_eq_true c)) n1) fun _ => ⟨_, rfl, rfl, _, rfl, ite2 (fun c => absurd (V.str.inj (of_decide_eq_true c)) n2) fun _ => ⟨_, rfl, rfl, _, rfl, ite2 (fun c => absurd (V.str.inj (of_decide_eq_true c)) n3) fun _ => ?_⟩⟩⟩
      refine ⟨_, rfl, 1, rfl, p, _, -1, vb, rfl, rfl, SqT.of hp, at_last (V.str s :: us) vb, by show 1 ≤ sizeLine; decide, fun q hq => ?_⟩
      exact k q [vb] _ hq upd_same ⟨vb, [], rfl, rb.mono (TupK.same (Same.new hq)), rfl⟩ (Same.new hq)
    | ifs a b c =>
      obtain ⟨p, _, rfl, hp, _, _, rfl, rfl, va, _, rfl, ra, vb, _, rfl, rb, vc, _, rfl, rc, e⟩ := hv
      cases e
      refine ⟨_, rfl, p, _, 0, _, rfl, rfl, SqT.of hp, at0 _ _, ?_⟩
      refine ⟨_, rfl, rfl, _, rfl, ite2 (fun c => absurd (V.str.inj (of_decide_eq_true c)) (by decide +kernel)) fun _ => ⟨_, rfl, rfl, _, rfl, ite2 (fun _ => ?_) fun c => absurd (decide_eq_true rfl) c⟩⟩
      refine ⟨_, rfl, p, _, 2, vb, rfl, rfl, SqT.of hp, at_nat _ 2 rfl, _, rfl, p, _, 3, vc, rfl, rfl, SqT.of hp, at_nat _ 3 rfl, by show 2 ≤ sizeLine; decide, fun q hq => ?_⟩
      have tk := TupK.same (Same.new (o := .lst [vb, vc]) hq)
      exact k q [vb, vc] _ hq upd_same ⟨vb, _, rfl, rb.mono tk, vc, _, rfl, rc.mono tk, rfl⟩ (Same.new hq)
    | cas r b x y c =>
      obtain ⟨p, _, rfl, hp, _, _, rfl, rfl, va, _, rfl, ra, vb, _, rfl, rb, vx, _, rfl, rx, vy, _, rfl, ry, vc, _, rfl, rc, e⟩ := hv
      cases e
      refine ⟨_, rfl, p, _, 0, _, rfl, rfl, SqT.of hp, at0 _ _, ?_⟩
      refine ⟨_, rfl, rfl, _, rfl, ite2 (fun c => absurd (V.str.inj (of_decide_eq_true c)) (by decide +kernel)) fun _ => ⟨_, rfl, rfl, _, rfl, ite2 (fun c => absurd (V.str.inj (of_decide_eq_true c)) (by decide +kernel)) fun _ => ⟨_, rfl, rfl, _, rfl, ite2 (fun _ => ?_) fun c => absurd (decide_eq_true rfl) c⟩⟩⟩
      refine ⟨_, rfl, p, _, 2, vb, rfl, rfl, SqT.of hp, at_nat _ 2 rfl, _, rfl, p, _, 5, vc, rfl, rfl, SqT.of hp, at_nat _ 5 rfl, by show 2 ≤ sizeLine; decide, fun q hq => ?_⟩
      have tk := TupK.same (Same.new (o := .lst [vb, vc]) hq)
      exact k q [vb, vc] _ hq upd_same ⟨vb, _, rfl, rb.mono tk, vc, _, rfl, rc.mono tk, rfl⟩ (Same.new hq)
end
end Ak
namespace Ak
open PySem L2
local macro_rules | `(tactic| walk_at "no attr") => `(tactic| exact rwF_no _ _ _ (by decide +kernel) (by decide +kernel) (by decide +kernel))
/-! ### all pieces, from the outer in -/
abbrev st_pieces : Stmt := top 8
theorem sc_pieces : FnScope ["body", "found", "waiting", "piece"] ["body"] (defScope st_pieces) := ⟨rfl, rfl, rfl, by decide +kernel, rfl, by decide +kernel, by decide +kernel⟩
mutual
def PT.all : PT → List PT
  | .give ds => [.give ds]
  | .one s ds b => .one s ds b :: b.all
  | .ifs a b c => .ifs a b c :: (b.all ++ c.all)
  | .cas r b x y c => .cas r b x y c :: (b.all ++ c.all)
end
def spPieces : Sp := fun vs H Q _ => ∃ (v : V) (t : PT), vs = [v] ∧ Rep H t.d v ∧ t.Ok ∧ t.all.length ≤ 100000 ∧ ∀ (q : Addr) (us : List V) (H' : Hp), H q = none → H' q = some (.lst us) → Reps H' (t.all.map PT.d) us → Same H H' → Q (.ref q) H'
theorem reps_snoc {H : Hp} {d : D} : ∀ {ds : List D} {vs : List V}, Reps H (ds ++ [d]) vs → ∃ us v, vs = us ++ [v] ∧ Reps H ds us ∧ Rep H d v
  | [], vs, ⟨v, r, e1, h1, h2⟩ => ⟨[], v, by rw [e1, show r = [] from h2]; rfl, rfl, h1⟩
  | _ :: _, vs, ⟨v, r, e1, h1, h2⟩ => by
    obtain ⟨us, u, e, g, h⟩ := reps_snoc h2
    exact ⟨v :: us, u, by rw [e1, e]; rfl, Reps.cons h1 g, h⟩
theorem reps_rev {H : Hp} : ∀ {ds : List D} {vs : List V}, Reps H ds vs → Reps H ds.reverse vs.reverse
  | [], vs, h => by
    have e : vs = [] := h
    rw [e]; rfl
  | d :: ds, vs, ⟨v, r, e1, h1, h2⟩ => by
    rw [e1, List.reverse_cons, List.reverse_cons]
    exact Reps.append (reps_rev h2) (Reps.cons h1 rfl)
theorem tk_lst {J : Hp} {F : Addr} {us : List V} {o : HO} (h : J F = some (.lst us)) : TupK J (upd J F o) := fun p vs e => by
  have : p ≠ F := fun z => by rw [z, h] at e; cases e
  rw [upd_ne this]; exact e
theorem all_kids (t : PT) : t.all = t :: t.kids.flatMap PT.all := by
  cases t <;> simp [PT.all, PT.kids]
theorem kids_ok {t : PT} (h : t.Ok) : ∀ b ∈ t.kids, b.Ok := fun b hb => by
  cases t with
  | give ds => cases hb
  | one s ds c => rw [List.mem_singleton.mp hb]; exact h.2
  | ifs a c e => rcases List.mem_cons.mp hb with rfl | hb
                 · exact h.1
                 · rw [List.mem_singleton.mp hb]; exact h.2
  | cas r c x y e => rcases List.mem_cons.mp hb with rfl | hb
                     · exact h.1
                     · rw [List.mem_singleton.mp hb]; exact h.2
section
variable {P : Program} {w : World} {K : PySem.W.Frag} {mg : Str → Option Value} {base : Heap} {f1 : Addr} {d1 : FuncData}
theorem ok_pieces {f : Addr} {fd : FuncData} (D : Fn K mg "pieces" st_pieces ["body"] f fd) (D_bodies_of : Fn K mg "bodies_of" st_bodies_of ["piece"] f1 d1) (G_bodies_of : FnOk P w K mg base CX0 1 f1 d1 ["piece"] spBodies) : FnOk P w K mg base CX0 2 f fd ["body"] spPieces := by
  refine D.F.ok sc_pieces (fun vs H Q E h => ?_) (fun cdv A outer s H vs Q E hr h => ?_)
  · obtain ⟨v, t, rfl, _⟩ := h
    rfl
  · obtain ⟨v, t, rfl, hv, ok, hl, k⟩ := h
    refine ⟨_, (pss_cons (ps_set (i := 1) sc_pieces.nd rfl (Or.inl rfl) (pe_lst pa_nil))
      (pss_cons (ps_set (i := 2) sc_pieces.nd rfl (Or.inl rfl) (pe_lst (pa_cons (pv 0) pa_nil)))
      (pss_cons (ps_while PassesOwn.never (pt_truth (pv 2) (by intro _; rfl)) (pss_cons (ps_set (i := 3) sc_pieces.nd rfl (Or.inl rfl) (pe_bm0 PySem.F.plainAttrs_list PySem.F.slot_list_pop PySem.F.type_list_pop mt_pop (pv 2)))
      (pss_cons (ps_expr (pe_bm PySem.F.plainAttrs_list PySem.F.slot_list_append PySem.F.type_list_append mt_append (pv 1) (pa_cons (pv 3) pa_nil)))
      (pss_one (ps_expr (pe_bm PySem.F.plainAttrs_list PySem.F.slot_list_extend PySem.F.type_list_extend mt_extend (pv 2) (pa_cons (pe_revL (pe_call G_bodies_of (hr.mono (by decide)) rfl D_bodies_of.mg D_bodies_of.kp D_bodies_of.b .nil pass0 (pa_cons (pv 3) pa_nil))) pa_nil)))))))
      (pss_one (ps_ret (pv 1)))))), ?_⟩
    refine ⟨Nat.zero_le _, fun F hF => ?_⟩
    have s1 := Same.new (o := .lst []) hF
    have a1 := upd_same (H := H) (a := F) (o := .lst [])
    generalize upd H F (.lst []) = J1 at s1 a1 ⊢
    refine ⟨_, rfl, by show 1 ≤ sizeLine; decide, fun W hW => ?_⟩
    have FW : F ≠ W := fun z => by rw [← z, a1] at hW; cases hW
    have hW0 : H W = none := by
      cases e : H W with
      | none => rfl
      | some o => rw [s1 _ _ e] at hW; cases hW
    have s2 := Same.new (o := .lst [v]) hW
    have a2 := upd_same (H := J1) (a := W) (o := .lst [v])
    have b2 := s2 _ _ a1
    have s12 := s1.trans s2
    change tSeq _ _ _ _ (upd J1 W (.lst [v]))
    generalize upd J1 W (.lst [v]) = J2 at s2 a2 b2 s12 ⊢
    refine ⟨fun m σ J => ∃ (dn lf : List PT) (o3 : Option V) (us ws : List V), σ = [some v, some (.ref F), some (.ref W), o3] ∧ J F = some (.lst us) ∧ J W = some (.lst ws) ∧ Reps J (dn.map PT.d) us ∧ Reps J (lf.reverse.map PT.d) ws ∧ dn ++ lf.flatMap PT.all = t.all ∧ (∀ b ∈ lf, b.Ok) ∧ m = (lf.flatMap PT.all).length ∧ Same H J,
      ⟨_, [], [t], _, [], [v], rfl, b2, a2, rfl, ⟨v, [], rfl, hv.mono (TupK.same s12), rfl⟩, by simp, (fun b hb => by rw [List.mem_singleton.mp hb]; exact ok), rfl, s12⟩, fun m σ J z => ?_⟩
    obtain ⟨dn, lf, o3, us, ws, rfl, hF1, hW1, ru, rl, e, okl, rfl, sm⟩ := z
    refine ⟨_, rfl, _, .inl ⟨ws, SqL.of hW1, rfl⟩, ?_⟩
    cases lf with
    | nil =>
      have ew : ws = [] := rl
      subst ew
      refine iteF ⟨_, rfl, k F us J hF hF1 ?_ sm⟩
      have e' : dn = t.all := by simpa using e
      rw [← e']; exact ru
    | cons b r =>
      rw [List.reverse_cons, List.map_append] at rl
      obtain ⟨ws', vb, rfl, rl', rb⟩ := reps_snoc rl
      have le : dn.length + (b.all.length + (r.flatMap PT.all).length) = t.all.length := by
        rw [← e, List.length_append, List.flatMap_cons, List.length_append]
      have lu : us.length = dn.length := by rw [Reps.len ru, List.length_map]
      rw [show (!(ws' ++ [vb]).isEmpty) = true by simp]
      refine iteT ⟨fun σ' J' => ∃ m', m' < ((b :: r).flatMap PT.all).length ∧ ∃ (dn lf : List PT) (o3 : Option V) (us ws : List V), σ' = [some v, some (.ref F), some (.ref W), o3] ∧ J' F = some (.lst us) ∧ J' W = some (.lst ws) ∧ Reps J' (dn.map PT.d) us ∧ Reps J' (lf.reverse.map PT.d) ws ∧ dn ++ lf.flatMap PT.all = t.all ∧ (∀ b ∈ lf, b.Ok) ∧ m' = (lf.flatMap PT.all).length ∧ Same H J', fun _ _ z => z, ?_⟩
      refine ⟨_, rfl, .inl ⟨rfl, _, SqL.of hW1⟩, W, _, vb, rfl, rfl, hW1, by simp, ?_⟩
      rw [List.dropLast_concat]
      have k3 : TupK J (upd J W (.lst ws')) := tk_lst hW1
      have a3 := upd_same (H := J) (a := W) (o := .lst ws')
      have b3 : (upd J W (.lst ws')) F = some (.lst us) := (upd_ne FW).trans hF1
      have sm3 : Same H (upd J W (.lst ws')) := fun c o e => by rw [upd_ne (ne_of_none e hW0)]; exact sm c o e
      generalize upd J W (.lst ws') = J3 at k3 a3 b3 sm3 ⊢
      refine ⟨_, rfl, .inl ⟨rfl, _, SqL.of b3⟩, _, rfl, F, us, vb, rfl, rfl, b3, Nat.lt_of_le_of_lt (by omega : us.length ≤ 100000) (by decide), ?_⟩
      have k4 := k3.trans (tk_lst (o := .lst (us ++ [vb])) b3)
      have a4 := upd_same (H := J3) (a := F) (o := .lst (us ++ [vb]))
      have b4 : (upd J3 F (.lst (us ++ [vb]))) W = some (.lst ws') := (upd_ne FW.symm).trans a3
      have sm4 : Same H (upd J3 F (.lst (us ++ [vb]))) := fun c o e => by rw [upd_ne (ne_of_none e hF)]; exact sm3 c o e
      generalize upd J3 F (.lst (us ++ [vb])) = J4 at k4 a4 b4 sm4 ⊢
      refine ⟨_, rfl, .inl ⟨rfl, _, SqL.of b4⟩, _, rfl, vb, b, rfl, rb.mono k4, okl b (by simp), fun q ks J5 nq hq rk s5 => ⟨q, ks, rfl, SqL.of hq, fun q2 hq2 => ?_⟩⟩
      have s6 := Same.new (o := .lst ks.reverse) hq2
      have s56 := s5.trans s6
      have k6 := k4.trans (TupK.same s56)
      have lk : ks.length = b.kids.length := by rw [Reps.len rk, List.length_map]
      have lw : ws'.length = r.length := by rw [Reps.len rl', List.length_map, List.length_reverse]
      have all1 : ∀ l : List PT, l.length ≤ (l.flatMap PT.all).length := fun l => by
        induction l with
        | nil => exact Nat.le_refl _
        | cons a l ih => rw [List.flatMap_cons, List.length_append, List.length_cons, all_kids a, List.length_cons]; omega
      have lb : b.all.length = 1 + (b.kids.flatMap PT.all).length := by rw [all_kids b, List.length_cons]; omega
      have c1 := all1 r
      have c2 := all1 b.kids
      refine ⟨W, q2, ws', ks.reverse, rfl, rfl, s56 _ _ b4, upd_same, Nat.le_trans (by rw [List.length_reverse]; omega : _ ≤ 100000) (by decide), ?_⟩
      have hW6 := s56 _ _ b4
      have k7 := k6.trans (tk_lst (o := .lst (ws' ++ ks.reverse)) hW6)
      refine ⟨_, ?_, dn ++ [b], b.kids ++ r, _, us ++ [vb], ws' ++ ks.reverse, rfl, (upd_ne FW).trans (s56 _ _ a4), upd_same, ?_, ?_, ?_, ?_, rfl, fun c o e => by rw [upd_ne (ne_of_none e hW0)]; exact s56 _ _ (sm4 c o e)⟩
      · rw [List.flatMap_append, List.length_append, List.flatMap_cons, List.length_append]; omega
      · rw [List.map_append]
        exact Reps.append (ru.mono k7) (Reps.cons (rb.mono k7) rfl)
      · rw [List.reverse_append, List.map_append]
        refine Reps.append (rl'.mono k7) ?_
        rw [List.map_reverse]
        exact (reps_rev rk).mono ((TupK.same s6).trans (tk_lst hW6))
      · rw [← e, List.flatMap_append, List.flatMap_cons, all_kids b]; simp
      · intro c hc
        rcases List.mem_append.mp hc with hc | hc
        · exact kids_ok (okl b (by simp)) c hc
        · exact okl c (by simp [hc])
end
end Ak
namespace Ak
open PySem L2
local macro_rules | `(tactic| walk_at "no attr") => `(tactic| exact rwF_no _ _ _ (by decide +kernel) (by decide +kernel) (by decide +kernel))
/-! ### the parts of a keeper -/
abbrev st_parts_of_keeper : Stmt := top 3
theorem sc_parts_of_keeper : FnScope ["keeper", "name", "hear"] ["keeper"] (defScope st_parts_of_keeper) := ⟨rfl, rfl, rfl, by decide +kernel, rfl, by decide +kernel, by decide +kernel⟩
def keepD (n : Str) (qs : List Str) : List D := .t [.s "end", .s n] :: qs.map fun q => .t [.s "hear", .s n, .s q]
def spPartsK (K : PySem.W.Frag) : Sp := fun vs H Q _ => ∃ (p hs : Addr) (n : Str) (a b c e : V) (ps : List (Str × V)), vs = [.ref p] ∧ H p = some (.tup [.str n, a, b, c, e, .ref hs]) ∧ SqT K H hs (ps.map (·.2)) ∧ (∀ q ∈ ps, ∃ a rest, q.2 = .ref a ∧ H a = some (.tup (V.str q.1 :: rest))) ∧ ps.length ≤ 1000 ∧
  ∀ (q : Addr) (us : List V) (H' : Hp), H q = none → H' q = some (.lst us) → Reps H' (keepD n (ps.map (·.1))) us → Same H H' → Q (.ref q) H'
section
variable {P : Program} {w : World} {K : PySem.W.Frag} {mg : Str → Option Value} {base : Heap}
theorem ok_parts_of_keeper {f : Addr} {fd : FuncData} (D : Fn K mg "parts_of_keeper" st_parts_of_keeper ["keeper"] f fd) : FnOk P w K mg base CX0 1 f fd ["keeper"] (spPartsK K) := by
  refine D.F.ok sc_parts_of_keeper (fun vs H Q E h => ?_) (fun cdv A outer s H vs Q E hr h => ?_)
  · obtain ⟨p, hs, n, a, b, c, e, ps, rfl, _⟩ := h
    rfl
  · obtain ⟨p, hs, n, a, b, c, e, ps, rfl, hp, hh, hq, hl, k⟩ := h
    refine ⟨_, (pss_cons (ps_set (i := 1) sc_parts_of_keeper.nd rfl (Or.inr rfl) (pe_ix ix_tup (pv 0) pe_int (fun _ _ => rfl)))
      (pss_one (ps_ret (pe_lst (pa_cons (pe_tup (pa_cons pe_str (pa_cons (pv 1) pa_nil))) (StX.pa_star (pe_lc (own := [("hear", 2)]) (g := gName 2) (tt := tYes) (te := (tTup (tCons (tC (V.str "hear")) (tCons (tVar 1) (tCons (tOp (rIxT K) (tVar 2) (tC (V.int 0))) tNil))))) rfl sc_parts_of_keeper.nd (pi_tup (pe_ix ix_tup (pv 0) pe_int (fun _ _ => rfl))) (blkOk_by (own := [("hear", 2)]) (N := ["keeper", "name", "hear"]) (sc := defScope st_parts_of_keeper) (by decide +kernel)) (fun _ _ _ _ _ => (pg_name (i := 2) sc_parts_of_keeper.nd rfl (Or.inl rfl))) (fun _ _ _ _ _ => pts_nil) (fun _ _ _ _ _ => (pe_tup (pa_cons pe_str (pa_cons (pv 1) (pa_cons (pe_ix ix_tup (pv 2) pe_int (fun _ _ => rfl)) pa_nil)))))) pa_nil)))))), ?_⟩
    refine ⟨_, rfl, p, _, 0, _, rfl, rfl, SqT.of hp, at0 _ _, ?_⟩
    refine ⟨_, rfl, by show 2 ≤ sizeLine; decide, fun t ht => ?_⟩
    have r0 := Rep.new (ds := [.s "end", .s n]) (vs := [V.str "end", V.str n]) ht (Reps.cons rfl (Reps.cons rfl rfl))
    have s0 := Same.new (o := .tup [V.str "end", V.str n]) ht
    have hp0 := s0 _ _ hp
    have hh0 := sqT_same s0 hh
    have hq0 : ∀ q ∈ ps, ∃ a rest, q.2 = .ref a ∧ (upd H t (.tup [V.str "end", V.str n])) a = some (.tup (V.str q.1 :: rest)) := fun q hm => by
      obtain ⟨a, rest, e1, e2⟩ := hq q hm
      exact ⟨a, rest, e1, s0 _ _ e2⟩
    generalize hJ0 : upd H t _ = J0
    have hJ0' : upd H t (.tup [V.str "end", V.str n]) = J0 := hJ0
    rw [hJ0'] at r0 s0 hp0 hh0 hq0
    refine ⟨_, rfl, p, _, 5, .ref hs, rfl, rfl, SqT.of hp0, at_nat _ 5 rfl, hs, rfl, ⟨_, hh0⟩, fun L hL => lc_it walk_tup (fun i J => Same J0 J ∧ ∃ us, J L = some (.lst us) ∧ Reps J ((ps.take i).map fun q => Ak.D.t [.s "hear", .s n, .s q.1]) us) ⟨Same.new hL, [], upd_same, rfl⟩ (fun i J _ z => sqT_same z.1 hh0) (fun i y J J1 hi z yy => ?_) fun J z => ?_⟩
    · obtain ⟨rfl, hy⟩ := yy
      obtain ⟨sm, us, hJ, ru⟩ := z
      rw [List.length_map] at hi
      have eq : ps[i]? = some ps[i] := List.getElem?_eq_getElem hi
      have hm := List.mem_of_getElem? eq
      generalize ps[i] = q at eq hm
      have hy' : (ps.map (·.2))[i]? = some y := hy
      rw [List.getElem?_map, eq] at hy'
      obtain rfl : q.2 = y := Option.some.inj hy'
      obtain ⟨a, rest, ea, ha⟩ := hq0 q hm
      have lu : us.length ≤ 1000 := by rw [Reps.len ru, List.length_map, List.length_take]; omega
      refine ⟨rfl, lc_yes ?_⟩
      refine ⟨_, rfl, _, rfl, a, V.str q.1 :: rest, 0, V.str q.1, ea, rfl, SqT.of (sm _ _ ha), at0 _ _, by show 3 ≤ sizeLine; decide, fun m hm1 => ?_⟩
      have rm := Rep.new (ds := [.s "hear", .s n, .s q.1]) (vs := [V.str "hear", V.str n, V.str q.1]) hm1 (Reps.cons rfl (Reps.cons rfl (Reps.cons rfl rfl)))
      have s1 := Same.new (o := .tup [V.str "hear", V.str n, V.str q.1]) hm1
      generalize hJ2 : upd J1 m _ = J2
      have hJ2' : upd J1 m (.tup [V.str "hear", V.str n, V.str q.1]) = J2 := hJ2
      rw [hJ2'] at rm s1
      have hL2 := s1 _ _ hJ
      have tk := tk_lst (o := .lst (us ++ [V.ref m])) hL2
      refine ⟨_, hL2, Nat.lt_of_le_of_lt lu (by decide), fun c o e => ?_, us ++ [V.ref m], upd_same, ?_⟩
      · rw [upd_ne (ne_of_none e hL)]; exact s1 _ _ (sm c o e)
      · rw [List.take_add_one, eq, List.map_append]
        exact Reps.append ((ru.mono (TupK.same s1)).mono tk) (Reps.cons (rm.mono tk) rfl)
    · obtain ⟨sm, us, hJ, ru⟩ := z
      rw [List.length_map, List.take_length] at ru
      have lu : us.length ≤ 1000 := by rw [Reps.len ru, List.length_map]; omega
      refine ⟨L, us, rfl, .inr (SqL.of hJ), ?_⟩
      change (V.ref t :: (us ++ [])).length ≤ sizeLine ∧ ∀ q, J q = none → Q (.ref q) (upd J q (.lst (V.ref t :: (us ++ []))))
      rw [List.append_nil]
      refine ⟨Nat.le_trans (by show us.length + 1 ≤ 1001; omega) (by decide), fun q hq1 => ?_⟩
      have s2 := Same.new (o := .lst (V.ref t :: us)) hq1
      have sH := (s0.trans sm)
      have hq0' : H q = none := by
        cases e : H q with
        | none => rfl
        | some o => rw [sH _ _ e] at hq1; cases hq1
      refine k q (V.ref t :: us) _ hq0' upd_same ?_ (sH.trans s2)
      rw [keepD, List.map_map]
      exact Reps.cons (r0.mono (TupK.same (sm.trans s2))) (ru.mono (TupK.same s2))
end
end Ak
namespace Ak
open PySem L2
local macro_rules | `(tactic| walk_at "no attr") => `(tactic| exact rwF_no _ _ _ (by decide +kernel) (by decide +kernel) (by decide +kernel))
/-! ### a program as data; the list of its parts -/
abbrev st_all_parts : Stmt := top 4
theorem sc_all_parts : FnScope ["program", "parts", "keeper", "function"] ["program"] (defScope st_all_parts) := ⟨rfl, rfl, rfl, by decide +kernel, rfl, by decide +kernel, by decide +kernel⟩
structure HG where
  (q x h n : Str)
  body : PT
def HG.d (r : HG) : D := .t [.s r.q, .s r.x, .s r.h, .s r.n, r.body.d]
structure KG where
  nm : Str
  (note takes gives : D)
  (x n : Str)
  last : PT
  hears : List HG
def KG.d (k : KG) : D := .t [.s k.nm, k.note, k.takes, k.gives, .t [.s k.x, .s k.n, k.last.d], .t (k.hears.map HG.d)]
structure FG where
  nm : Str
  params : List (Str × D)
  kind : D
  body : PT
def FG.d (f : FG) : D := .t [.s f.nm, .t (f.params.map fun p => .t [.s p.1, p.2]), f.kind, f.body.d]
structure AG where
  nm : Str
  (of gives : D)
def AG.d (a : AG) : D := .t [.s a.nm, a.of, a.gives]
structure PG where
  as : List AG
  ks : List KG
  fs : List FG
def PG.d (p : PG) : D := .t [.t (p.as.map AG.d), .t (p.ks.map KG.d), .t (p.fs.map FG.d)]
structure PG.Ok (p : PG) : Prop where
  as : p.as.length ≤ 1000
  ks : p.ks.length ≤ 100
  fs : p.fs.length ≤ 1000
  hs : ∀ k ∈ p.ks, k.hears.length ≤ 100
  kb : ∀ k ∈ p.ks, k.last.Ok ∧ ∀ r ∈ k.hears, r.body.Ok
  fb : ∀ f ∈ p.fs, f.body.Ok ∧ f.params.length ≤ 1000
inductive Part where
  | en (k : Str) | he (k q : Str) | de (f : Str)
def Part.d : Part → D
  | .en k => .t [.s "end", .s k]
  | .he k q => .t [.s "hear", .s k, .s q]
  | .de f => .t [.s "def", .s f]
def KG.parts (k : KG) : List Part := .en k.nm :: k.hears.map fun r => .he k.nm r.q
def PG.parts (p : PG) : List Part := p.ks.flatMap KG.parts ++ p.fs.map fun f => .de f.nm
theorem keepD_parts (k : KG) : keepD k.nm (k.hears.map (·.q)) = k.parts.map Part.d := by
  unfold keepD KG.parts
  rw [List.map_cons, List.map_map, List.map_map]; rfl
/-- rows as pairs of a name and a value -/
theorem rows_pairs {α : Type} {dd : α → D} {nm : α → Str} (hdd : ∀ x, ∃ r, dd x = .t (.s (nm x) :: r)) {H : Hp} : ∀ {xs : List α} {us : List V}, Reps H (xs.map dd) us → ∃ ps : List (Str × V), us = ps.map (·.2) ∧ ps.map (·.1) = xs.map nm ∧ ∀ q ∈ ps, ∃ a rest, q.2 = .ref a ∧ H a = some (.tup (V.str q.1 :: rest))
  | [], us, h => ⟨[], (show us = [] from h), rfl, fun _ z => nomatch z⟩
  | x :: r, _, ⟨v, t, e, h1, h2⟩ => by
    obtain ⟨ps, e1, e2, e3⟩ := rows_pairs hdd h2
    obtain ⟨rr, er⟩ := hdd x
    rw [er] at h1
    obtain ⟨a, vs, rfl, ha, v0, rest, rfl, e0, _⟩ := h1
    cases (show v0 = _ from e0)
    refine ⟨(nm x, .ref a) :: ps, by rw [e, e1]; rfl, by rw [List.map_cons, List.map_cons, e2], fun q hq => ?_⟩
    rcases List.mem_cons.mp hq with rfl | hq
    · exact ⟨a, rest, rfl, ha⟩
    · exact e3 q hq
theorem KG.at {H : Hp} {k : KG} {v : V} (h : Rep H k.d v) : ∃ (p e hs : Addr) (va vb vc vl : V) (ws : List V), v = .ref p ∧ H p = some (.tup [.str k.nm, va, vb, vc, .ref e, .ref hs]) ∧ H e = some (.tup [.str k.x, .str k.n, vl]) ∧ H hs = some (.tup ws) ∧ Reps H (k.hears.map HG.d) ws ∧ Rep H k.note va ∧ Rep H k.takes vb ∧ Rep H k.gives vc ∧ Rep H k.last.d vl := by
  obtain ⟨p, vs, rfl, hp, v0, _, rfl, e0, va, _, rfl, ra, vb, _, rfl, rb, vc, _, rfl, rc, ve, _, rfl, ⟨e, es, rfl, he, w0, _, rfl, f0, w1, _, rfl, f1, vl, z1, rfl, rl, ez⟩, vh, r, rfl, ⟨hs, ws, rfl, hh, rw⟩, er⟩ := h
  cases (show v0 = _ from e0)
  cases (show w0 = _ from f0)
  cases (show w1 = _ from f1)
  cases (show r = [] from er)
  cases (show z1 = [] from ez)
  exact ⟨p, e, hs, va, vb, vc, vl, ws, rfl, hp, he, hh, rw, ra, rb, rc, rl⟩
theorem FG.at {H : Hp} {f : FG} {v : V} (h : Rep H f.d v) : ∃ (p ps : Addr) (vk vb : V) (us : List V), v = .ref p ∧ H p = some (.tup [.str f.nm, .ref ps, vk, vb]) ∧ H ps = some (.tup us) ∧ Reps H (f.params.map fun p => Ak.D.t [.s p.1, p.2]) us ∧ Rep H f.kind vk ∧ Rep H f.body.d vb := by
  obtain ⟨p, vs, rfl, hp, v0, _, rfl, e0, _, _, rfl, ⟨ps, us, rfl, hs, ru⟩, vk, _, rfl, rk, vb, r, rfl, rb, er⟩ := h
  cases (show v0 = _ from e0)
  cases (show r = [] from er)
  exact ⟨p, ps, vk, vb, us, rfl, hp, hs, ru, rk, rb⟩
theorem PG.at {H : Hp} {p : PG} {v : V} (r : Rep H p.d v) : ∃ (t a k f : Addr) (ua uk uf : List V), v = .ref t ∧ H t = some (.tup [.ref a, .ref k, .ref f]) ∧ H a = some (.tup ua) ∧ H k = some (.tup uk) ∧ H f = some (.tup uf) ∧ Reps H (p.as.map AG.d) ua ∧ Reps H (p.ks.map KG.d) uk ∧ Reps H (p.fs.map FG.d) uf := by
  obtain ⟨p, vs, rfl, hp, va, _, rfl, ⟨a, ua, rfl, ha, ra⟩, vk, _, rfl, ⟨k, uk, rfl, hk, rk⟩, vf, r, rfl, ⟨f, uf, rfl, hf, rf⟩, er⟩ := r
  cases (show r = [] from er)
  exact ⟨p, a, k, f, ua, uk, uf, rfl, hp, ha, hk, hf, ra, rk, rf⟩
def spAllParts : Sp := fun vs H Q _ => ∃ (v : V) (p : PG), vs = [v] ∧ Rep H p.d v ∧ p.Ok ∧ ∀ (q : Addr) (us : List V) (H' : Hp), H q = none → H' q = some (.lst us) → Reps H' (p.parts.map Part.d) us → Same H H' → Q (.ref q) H'
section
variable {P : Program} {w : World} {K : PySem.W.Frag} {mg : Str → Option Value} {base : Heap} {f1 : Addr} {d1 : FuncData}
theorem ok_all_parts {f : Addr} {fd : FuncData} (D : Fn K mg "all_parts" st_all_parts ["program"] f fd) (D_parts_of_keeper : Fn K mg "parts_of_keeper" st_parts_of_keeper ["keeper"] f1 d1) (G_parts_of_keeper : FnOk P w K mg base CX0 1 f1 d1 ["keeper"] (spPartsK K)) : FnOk P w K mg base CX0 2 f fd ["program"] spAllParts := by
  refine D.F.ok sc_all_parts (fun vs H Q E h => ?_) (fun cdv A outer s H vs Q E hr h => ?_)
  · obtain ⟨v, p, rfl, _⟩ := h
    rfl
  · obtain ⟨v, p, rfl, hv, ok, k⟩ := h
    obtain ⟨t, a, kk, ff, ua, uk, uf, rfl, ht, ha, hk, hf, ra, rk, rf⟩ := PG.at hv
    refine ⟨_, (pss_cons (ps_set (i := 1) sc_all_parts.nd rfl (Or.inl rfl) (pe_lst pa_nil))
      (pss_cons (ps_for PassesOwn.never rfl (pi_tup (pe_ix ix_tup (pv 0) pe_int (fun _ _ => rfl))) (pg_name (i := 2) sc_all_parts.nd rfl (Or.inl rfl)) (pss_one (ps_expr (pe_bm PySem.F.plainAttrs_list PySem.F.slot_list_extend PySem.F.type_list_extend mt_extend (pv 1) (pa_cons (pe_call G_parts_of_keeper (hr.mono (by decide)) rfl D_parts_of_keeper.mg D_parts_of_keeper.kp D_parts_of_keeper.b .nil pass0 (pa_cons (pv 2) pa_nil)) pa_nil)))))
      (pss_cons (ps_expr (pe_bm PySem.F.plainAttrs_list PySem.F.slot_list_extend PySem.F.type_list_extend mt_extend (pv 1) (pa_cons (pe_lc (own := [("function", 3)]) (g := gName 3) (tt := tYes) (te := (tTup (tCons (tC (V.str "def")) (tCons (tOp (rIxT K) (tVar 3) (tC (V.int 0))) tNil)))) rfl sc_all_parts.nd (pi_tup (pe_ix ix_tup (pv 0) pe_int (fun _ _ => rfl))) (blkOk_by (own := [("function", 3)]) (N := ["program", "parts", "keeper", "function"]) (sc := defScope st_all_parts) (by decide +kernel)) (fun _ _ _ _ _ => (pg_name (i := 3) sc_all_parts.nd rfl (Or.inl rfl))) (fun _ _ _ _ _ => pts_nil) (fun _ _ _ _ _ => (pe_tup (pa_cons pe_str (pa_cons (pe_ix ix_tup (pv 3) pe_int (fun _ _ => rfl)) pa_nil))))) pa_nil)))
      (pss_one (ps_ret (pv 1)))))), ?_⟩
    refine ⟨Nat.zero_le _, fun L hL => ?_⟩
    have sL := Same.new (o := .lst []) hL
    have aL := upd_same (H := H) (a := L) (o := .lst [])
    have kH : ∀ {J : Hp}, Kp L L (upd H L (.lst [])) J → Same H J := fun kk b o e => kk b o (sL b o e) (ne_of_none e hL) (ne_of_none e hL)
    have lk := Reps.len rk
    have lf := Reps.len rf
    rw [List.length_map] at lk lf
    refine ⟨_, rfl, t, _, 1, _, rfl, rfl, SqT.of (sL _ _ ht), at_nat _ 1 rfl, kk, rfl, ⟨_, SqT.of (sL _ _ hk)⟩, for_it walk_tup (fun i σ J => Same H J ∧ ∃ (us : List V) (o2 : Option V), σ = [some (.ref t), some (.ref L), o2, none] ∧ J L = some (.lst us) ∧ Reps J (((p.ks.take i).flatMap KG.parts).map Part.d) us ∧ us.length ≤ 101 * i) ⟨sL, [], _, rfl, aL, rfl, Nat.le_refl _⟩ (fun i σ J _ q => SqT.of (q.1 _ _ hk)) (fun i x σ J J' hi q y => ?_) fun σ J q => ?_⟩
    · obtain ⟨sm, us, o2, rfl, hJ, ru, lu⟩ := q
      obtain ⟨rfl, ex⟩ := y
      rw [lk] at hi
      have et : p.ks[i]? = some p.ks[i] := List.getElem?_eq_getElem hi
      have hm := List.mem_of_getElem? et
      generalize p.ks[i] = kg at et hm
      obtain ⟨y, ey, ry⟩ := Reps.get (rk.mono (TupK.same sm)) (j := i) (d := kg.d) (by rw [List.getElem?_map, et]; rfl)
      obtain rfl : y = x := by rw [ey] at ex; exact Option.some.inj ex
      obtain ⟨pk, e, hs, va, vb, vc, vl, ws, rfl, hp, he, hh, rw1, _⟩ := KG.at ry
      obtain ⟨ps, rfl, e2, e3⟩ := rows_pairs (nm := HG.q) (fun r => ⟨_, rfl⟩) rw1
      have l1 := ok.hs kg hm
      have l2 : ps.length ≤ 100 := by
        have := congrArg List.length e2
        rw [List.length_map, List.length_map] at this; omega
      refine ⟨_, rfl, .inl ⟨rfl, _, SqL.of hJ⟩, _, rfl, pk, hs, kg.nm, va, vb, vc, .ref e, ps, rfl, hp, SqT.of hh, e3, by omega, fun q us2 J2 hq0 hq2 rq s2 => ?_⟩
      have hJ2 := s2 _ _ hJ
      rw [e2, keepD_parts] at rq
      have l3 : us2.length ≤ 101 := by
        rw [Reps.len rq, List.length_map]
        show (Part.en kg.nm :: kg.hears.map _).length ≤ 101
        rw [List.length_cons, List.length_map]; omega
      have hi100 := ok.ks
      refine ⟨L, q, us, us2, rfl, rfl, hJ2, hq2, Nat.le_trans (by omega : _ ≤ 20000) (by decide), ?_⟩
      have tk : TupK J2 (upd J2 L (.lst (us ++ us2))) := tk_lst hJ2
      refine ⟨fun b o e => by rw [upd_ne (ne_of_none e hL)]; exact s2 _ _ (sm _ _ e), us ++ us2, _, rfl, upd_same, ?_, by rw [List.length_append]; omega⟩
      rw [List.take_add_one, et, List.flatMap_append, List.map_append]
      refine Reps.append ((ru.mono (TupK.same s2)).mono tk) ?_
      have : (Option.some kg).toList.flatMap KG.parts = kg.parts := by simp
      rw [this]
      exact rq.mono tk
    · obtain ⟨sm, us, o2, rfl, hJ, ru, lu⟩ := q
      rw [lk, List.take_length] at ru
      have sm0 := sm
      have hkJ := sm _ _ hf
      refine ⟨_, rfl, .inl ⟨rfl, _, SqL.of hJ⟩, _, rfl, t, _, 2, _, rfl, rfl, SqT.of (sm _ _ ht), at_nat _ 2 rfl, ff, rfl, ⟨_, SqT.of hkJ⟩, fun M hM => lc_it walk_tup (fun i G => Same J G ∧ ∃ um, G M = some (.lst um) ∧ Reps G (((p.fs.take i).map fun f => Part.de f.nm).map Part.d) um) ⟨Same.new hM, [], upd_same, rfl⟩ (fun i G _ z => SqT.of (z.1 _ _ hkJ)) (fun i x G G1 hi z yy => ?_) fun G z => ?_⟩
      · obtain ⟨rfl, ex⟩ := yy
        obtain ⟨sG, um, hG, rG⟩ := z
        rw [lf] at hi
        have et : p.fs[i]? = some p.fs[i] := List.getElem?_eq_getElem hi
        generalize p.fs[i] = fg at et
        obtain ⟨y, ey, ry⟩ := Reps.get (rf.mono (TupK.same (sm.trans sG))) (j := i) (d := fg.d) (by rw [List.getElem?_map, et]; rfl)
        obtain rfl : y = x := by rw [ey] at ex; exact Option.some.inj ex
        obtain ⟨pf, ps, vk, vb, uu, rfl, hp, _⟩ := FG.at ry
        have lum : um.length ≤ 1000 := by have := ok.fs; rw [Reps.len rG, List.length_map, List.length_map, List.length_take]; omega
        refine ⟨rfl, lc_yes ?_⟩
        refine ⟨_, rfl, pf, _, 0, _, rfl, rfl, SqT.of hp, at0 _ _, by show 2 ≤ sizeLine; decide, fun m hm1 => ?_⟩
        have rm := Rep.new (ds := [.s "def", .s fg.nm]) (vs := [V.str "def", V.str fg.nm]) hm1 (Reps.cons rfl (Reps.cons rfl rfl))
        have s1 := Same.new (o := .tup [V.str "def", V.str fg.nm]) hm1
        have rm : Rep (upd G1 m (.tup [V.str "def", V.str fg.nm])) (Part.d (.de fg.nm)) (.ref m) := rm
        have hL2 := s1 _ _ hG
        have rG2 := rG.mono (TupK.same s1)
        generalize upd G1 m (.tup [V.str "def", V.str fg.nm]) = G2 at rm s1 hL2 rG2 ⊢
        have tk := tk_lst (o := .lst (um ++ [V.ref m])) hL2
        refine ⟨_, hL2, Nat.lt_of_le_of_lt lum (by decide), fun c o e => ?_, um ++ [V.ref m], upd_same, ?_⟩
        · rw [upd_ne (ne_of_none e hM)]; exact s1 _ _ (sG c o e)
        · rw [List.take_add_one, et, List.map_append, List.map_append]
          exact Reps.append (rG2.mono tk) (Reps.cons (rm.mono tk) rfl)
      · obtain ⟨sG, um, hG, rG⟩ := z
        rw [lf, List.take_length] at rG
        have hJG := sG _ _ hJ
        have lum : um.length ≤ 1000 := by rw [Reps.len rG, List.length_map, List.length_map]; exact ok.fs
        have h100 := ok.ks
        refine ⟨L, M, us, um, rfl, rfl, hJG, hG, Nat.le_trans (by omega : _ ≤ 20000) (by decide), ?_⟩
        have tk : TupK G (upd G L (.lst (us ++ um))) := tk_lst hJG
        refine ⟨_, rfl, k L (us ++ um) _ hL upd_same ?_ fun b o e => ?_⟩
        · unfold PG.parts
          rw [List.map_append]
          exact Reps.append ((ru.mono (TupK.same sG)).mono tk) (rG.mono tk)
        · rw [upd_ne (ne_of_none e hL)]; exact sG _ _ (sm _ _ e)
end
end Ak
namespace Ak
open PySem L2
local macro_rules | `(tactic| walk_at "no attr") => `(tactic| exact rwF_no _ _ _ (by decide +kernel) (by decide +kernel) (by decide +kernel))
/-! ### a part's body -/
abbrev st_body_of : Stmt := top 6
theorem sc_body_of : FnScope ["program", "part", "keeper"] ["program", "part"] (defScope st_body_of) := ⟨rfl, rfl, rfl, by decide +kernel, rfl, by decide +kernel, by decide +kernel⟩
theorem find_row {α : Type} {dd : α → D} {nm : α → Str} (hdd : ∀ x, ∃ r, dd x = .t (.s (nm x) :: r)) {H : Hp} {x : Str} {y : α} : ∀ {xs : List α} {us : List V}, Reps H (xs.map dd) us → xs.find? (fun z => decide (nm z = x)) = some y →
    ∃ (ps : List (Str × V)) (v : V) (t : List V), us = ps.map (·.2) ∧ (∀ q ∈ ps, ∃ a rest, q.2 = .ref a ∧ H a = some (.tup (V.str q.1 :: rest))) ∧ selN x ps = v :: t ∧ Rep H (dd y) v ∧ ps.length = xs.length
  | [], _, _, h => by cases h
  | z :: r, _, ⟨v, t, e, h1, h2⟩, hf => by
    have h1' := h1
    obtain ⟨rr, er⟩ := hdd z
    rw [er] at h1'
    obtain ⟨a, vs, rfl, ha, v0, rest, rfl, e0, _⟩ := h1'
    cases (show v0 = _ from e0)
    by_cases hz : nm z = x
    · rw [List.find?_cons, decide_eq_true hz] at hf
      obtain rfl : z = y := Option.some.inj hf
      obtain ⟨ps, e1, e2, e3⟩ := rows_pairs hdd h2
      refine ⟨(nm z, .ref a) :: ps, .ref a, selN x ps, by rw [e, e1]; rfl, fun q hq => ?_, ?_, h1, ?_⟩
      · rcases List.mem_cons.mp hq with rfl | hq
        · exact ⟨a, rest, rfl, ha⟩
        · exact e3 q hq
      · unfold selN
        rw [List.filter_cons, if_pos (by exact decide_eq_true hz)]; rfl
      · have := congrArg List.length e2
        rw [List.length_map, List.length_map] at this
        rw [List.length_cons, List.length_cons, this]
    · rw [List.find?_cons, decide_eq_false hz] at hf
      obtain ⟨ps, v, tt, e1, e2, e3, e4, e5⟩ := find_row hdd h2 hf
      refine ⟨(nm z, .ref a) :: ps, v, tt, by rw [e, e1]; rfl, fun q hq => ?_, ?_, e4, by rw [List.length_cons, List.length_cons, e5]⟩
      · rcases List.mem_cons.mp hq with rfl | hq
        · exact ⟨a, rest, rfl, ha⟩
        · exact e2 q hq
      · rw [← e3]; unfold selN
        rw [List.filter_cons, if_neg (by simpa using hz)]
def PG.kOf (p : PG) (k : Str) : Option KG := p.ks.find? fun z => decide (z.nm = k)
def KG.hOf (k : KG) (q : Str) : Option HG := k.hears.find? fun z => decide (z.q = q)
def PG.fOf (p : PG) (f : Str) : Option FG := p.fs.find? fun z => decide (z.nm = f)
def PG.aOf (p : PG) (q : Str) : Option AG := p.as.find? fun z => decide (z.nm = q)
def PG.bodyOf (p : PG) : Part → Option PT
  | .de f => (p.fOf f).map (·.body)
  | .en k => (p.kOf k).map (·.last)
  | .he k q => (p.kOf k).bind fun kg => (kg.hOf q).map (·.body)
theorem HG.at {H : Hp} {r : HG} {v : V} (h : Rep H r.d v) : ∃ (p : Addr) (vb : V), v = .ref p ∧ H p = some (.tup [.str r.q, .str r.x, .str r.h, .str r.n, vb]) ∧ Rep H r.body.d vb := by
  obtain ⟨p, vs, rfl, hp, v0, _, rfl, e0, v1, _, rfl, e1, v2, _, rfl, e2, v3, _, rfl, e3, vb, r, rfl, rb, er⟩ := h
  cases (show v0 = _ from e0)
  cases (show v1 = _ from e1)
  cases (show v2 = _ from e2)
  cases (show v3 = _ from e3)
  cases (show r = [] from er)
  exact ⟨p, vb, rfl, hp, rb⟩
def Part.wd : Part → Str | .en _ => "end" | .he _ _ => "hear" | .de _ => "def"
def Part.ab : Part → Str | .en k => k | .he k _ => k | .de f => f
def Part.rs : Part → List V | .he _ q => [.str q] | _ => []
theorem Part.at {H : Hp} {a : Part} {v : V} (h : Rep H a.d v) : ∃ p, v = .ref p ∧ H p = some (.tup (.str a.wd :: .str a.ab :: a.rs)) := by
  cases a with
  | en k =>
    obtain ⟨p, vs, rfl, hp, _, _, rfl, rfl, _, _, rfl, rfl, e⟩ := h
    cases e
    exact ⟨p, rfl, hp⟩
  | de k =>
    obtain ⟨p, vs, rfl, hp, _, _, rfl, rfl, _, _, rfl, rfl, e⟩ := h
    cases e
    exact ⟨p, rfl, hp⟩
  | he k q =>
    obtain ⟨p, vs, rfl, hp, _, _, rfl, rfl, _, _, rfl, rfl, _, _, rfl, rfl, e⟩ := h
    cases e
    exact ⟨p, rfl, hp⟩
def spBodyOf : Sp := fun vs H Q _ => ∃ (v pv : V) (p : PG) (a : Part) (b : PT), vs = [v, pv] ∧ Rep H p.d v ∧ Rep H a.d pv ∧ p.Ok ∧ p.bodyOf a = some b ∧ ∀ (u : V) (H' : Hp), Same H H' → Rep H' b.d u → Q u H'
section
variable {P : Program} {w : World} {K : PySem.W.Frag} {mg : Str → Option Value} {base : Heap} {f1 : Addr} {d1 : FuncData}
theorem ok_body_of {f : Addr} {fd : FuncData} (D : Fn K mg "body_of" st_body_of ["program", "part"] f fd) (D_row_named : Fn K mg "row_named" st_row_named ["rows", "name"] f1 d1) (G_row_named : FnOk P w K mg base CX0 1 f1 d1 ["rows", "name"] (spRowN K)) : FnOk P w K mg base CX0 2 f fd ["program", "part"] spBodyOf := by
  refine D.F.ok sc_body_of (fun vs H Q E h => ?_) (fun cdv A outer s H vs Q E hr h => ?_)
  · obtain ⟨v, pv, p, a, b, rfl, _⟩ := h
    rfl
  · obtain ⟨v, pv, p, pa, b, rfl, hv, hpa, ok, hb, k⟩ := h
    obtain ⟨t, a, kk, ff, ua, uk, uf, rfl, ht, ha, hk, hf, ra, rk, rf⟩ := PG.at hv
    obtain ⟨pp, rfl, hp⟩ := Part.at hpa
    refine ⟨_, (pss_cons (ps_if (pt_cmpR op_eq (pe_ix ix_tup (pv 1) pe_int (fun _ _ => rfl)) pe_str (nomark _)) (pss_one (ps_ret (pe_ix ix_tup (pe_call G_row_named (hr.mono (by decide)) rfl D_row_named.mg D_row_named.kp D_row_named.b .nil pass0 (pa_cons (pe_ix ix_tup (pv 0) pe_int (fun _ _ => rfl)) (pa_cons (pe_ix ix_tup (pv 1) pe_int (fun _ _ => rfl)) pa_nil))) pe_int (fun _ _ => rfl)))) pss_nil)
      (pss_cons (ps_set (i := 2) sc_body_of.nd rfl (Or.inl rfl) (pe_call G_row_named (hr.mono (by decide)) rfl D_row_named.mg D_row_named.kp D_row_named.b .nil pass0 (pa_cons (pe_ix ix_tup (pv 0) pe_int (fun _ _ => rfl)) (pa_cons (pe_ix ix_tup (pv 1) pe_int (fun _ _ => rfl)) pa_nil))))
      (pss_cons (ps_if (pt_cmpR op_eq (pe_ix ix_tup (pv 1) pe_int (fun _ _ => rfl)) pe_str (nomark _)) (pss_one (ps_ret (pe_ix ix_tup (pe_ix ix_tup (pv 2) pe_int (fun _ _ => rfl)) pe_int (fun _ _ => rfl)))) pss_nil)
      (pss_one (ps_ret (pe_ix ix_tup (pe_call G_row_named (hr.mono (by decide)) rfl D_row_named.mg D_row_named.kp D_row_named.b .nil pass0 (pa_cons (pe_ix ix_tup (pv 2) pe_int (fun _ _ => rfl)) (pa_cons (pe_ix ix_tup (pv 1) pe_int (fun _ _ => rfl)) pa_nil))) pe_int (fun _ _ => rfl))))))), ?_⟩
    cases pa with
    | de fn =>
      obtain ⟨fg, ef, rfl⟩ := Option.map_eq_some_iff.mp hb
      obtain ⟨ps, u, tl, rfl, e2, e3, e4, e5⟩ := find_row (nm := FG.nm) (fun r => ⟨_, rfl⟩) rf ef
      obtain ⟨pf, pps, vk, vb, uu, rfl, hpf, _, _, _, rb⟩ := FG.at e4
      refine ⟨_, rfl, pp, _, 0, _, rfl, rfl, SqT.of hp, at0 _ _, rfl, _, rfl, ite2 (fun _ => ?_) fun c => absurd (decide_eq_true rfl) c⟩
      refine ⟨_, rfl, t, _, 2, _, rfl, rfl, SqT.of ht, at_nat _ 2 rfl, _, rfl, pp, _, 1, _, rfl, rfl, SqT.of hp, at_nat _ 1 rfl, ff, fn, ps, .ref pf, rfl, SqT.of hf, e2, by have := ok.fs; omega, ⟨tl, e3⟩, fun J sJ => ⟨pf, _, 3, _, rfl, rfl, SqT.of (sJ _ _ hpf), at_nat _ 3 rfl, k _ J sJ (rb.mono (TupK.same sJ))⟩⟩
    | en kn =>
      obtain ⟨kg, ek, rfl⟩ := Option.map_eq_some_iff.mp hb
      obtain ⟨ps, u, tl, rfl, e2, e3, e4, e5⟩ := find_row (nm := KG.nm) (fun r => ⟨_, rfl⟩) rk ek
      obtain ⟨pk, pe, hs, va, vb, vc, vl, ws, rfl, hpk, he, hh, rw1, _, _, _, rl⟩ := KG.at e4
      refine ⟨_, rfl, pp, _, 0, _, rfl, rfl, SqT.of hp, at0 _ _, rfl, _, rfl, ite2 (fun c => absurd (V.str.inj (of_decide_eq_true c)) (show ¬ (("end" : Str) = "def") by decide +kernel)) fun _ => ?_⟩
      refine ⟨_, rfl, t, _, 1, _, rfl, rfl, SqT.of ht, at_nat _ 1 rfl, _, rfl, pp, _, 1, _, rfl, rfl, SqT.of hp, at_nat _ 1 rfl, kk, kn, ps, .ref pk, rfl, SqT.of hk, e2, by have := ok.ks; omega, ⟨tl, e3⟩, fun J sJ => ?_⟩
      refine ⟨_, rfl, pp, _, 0, _, rfl, rfl, SqT.of (sJ _ _ hp), at0 _ _, rfl, _, rfl, ite2 (fun _ => ?_) fun c => absurd (decide_eq_true rfl) c⟩
      exact ⟨_, rfl, pk, _, 4, _, rfl, rfl, SqT.of (sJ _ _ hpk), at_nat _ 4 rfl, pe, _, 2, _, rfl, rfl, SqT.of (sJ _ _ he), at_nat _ 2 rfl, k _ J sJ (rl.mono (TupK.same sJ))⟩
    | he kn q =>
      obtain ⟨kg, ek, e6⟩ := Option.bind_eq_some_iff.mp hb
      obtain ⟨hg, eh, rfl⟩ := Option.map_eq_some_iff.mp e6
      obtain ⟨ps, u, tl, rfl, e2, e3, e4, e5⟩ := find_row (nm := KG.nm) (fun r => ⟨_, rfl⟩) rk ek
      obtain ⟨pk, pe, hs, va, vb, vc, vl, ws, rfl, hpk, he, hh, rw1, _, _, _, rl⟩ := KG.at e4
      have mk : kg ∈ p.ks := List.mem_of_find?_eq_some ek
      refine ⟨_, rfl, pp, _, 0, _, rfl, rfl, SqT.of hp, at0 _ _, rfl, _, rfl, ite2 (fun c => absurd (V.str.inj (of_decide_eq_true c)) (show ¬ (("hear" : Str) = "def") by decide +kernel)) fun _ => ?_⟩
      refine ⟨_, rfl, t, _, 1, _, rfl, rfl, SqT.of ht, at_nat _ 1 rfl, _, rfl, pp, _, 1, _, rfl, rfl, SqT.of hp, at_nat _ 1 rfl, kk, kn, ps, .ref pk, rfl, SqT.of hk, e2, by have := ok.ks; omega, ⟨tl, e3⟩, fun J sJ => ?_⟩
      refine ⟨_, rfl, pp, _, 0, _, rfl, rfl, SqT.of (sJ _ _ hp), at0 _ _, rfl, _, rfl, ite2 (fun c => absurd (V.str.inj (of_decide_eq_true c)) (show ¬ (("hear" : Str) = "end") by decide +kernel)) fun _ => ?_⟩
      obtain ⟨qs, u2, tl2, rfl, g2, g3, g4, g5⟩ := find_row (nm := HG.q) (fun r => ⟨_, rfl⟩) (rw1.mono (TupK.same sJ)) eh
      obtain ⟨ph, vb2, rfl, hph, rb⟩ := HG.at g4
      refine ⟨_, rfl, pk, _, 5, _, rfl, rfl, SqT.of (sJ _ _ hpk), at_nat _ 5 rfl, _, rfl, pp, _, 2, _, rfl, rfl, SqT.of (sJ _ _ hp), at_nat _ 2 rfl, hs, q, qs, .ref ph, rfl, SqT.of (sJ _ _ hh), g2, by have := ok.hs kg mk; omega, ⟨tl2, g3⟩, fun J2 s2 => ⟨ph, _, 4, _, rfl, rfl, SqT.of (s2 _ _ hph), at_nat _ 4 rfl, k _ J2 (sJ.trans s2) (rb.mono (TupK.same s2))⟩⟩
end
end Ak
namespace Ak
open PySem L2
local macro_rules | `(tactic| walk_at "no attr") => `(tactic| exact rwF_no _ _ _ (by decide +kernel) (by decide +kernel) (by decide +kernel))
/-! ### what a part begins with -/
abbrev st_begun_with : Stmt := top 7
theorem sc_begun_with : FnScope ["program", "part", "keeper", "note", "x", "n", "q", "h", "asked"] ["program", "part"] (defScope st_begun_with) := ⟨rfl, rfl, rfl, by decide +kernel, rfl, by decide +kernel, by decide +kernel⟩
theorem slA_use {K : PySem.W.Frag} {H : Hp} {a : Addr} {xs : List V} {lo hi : Option Int} {Q : VK} (h : H a = some (.tup xs)) (k : ∀ p H', Same H H' → H' p = some (.tup (cutV xs lo hi)) → Q (.ref p) H') : rSlA K (.ref a) lo hi H Q := by
  refine ⟨a, xs, rfl, SqT.of h, fun e => k a H (Same.refl H) ?_, fun _ p hp => k p _ (Same.new hp) upd_same⟩
  unfold cutV
  rw [e.1, e.2, List.drop_zero, Nat.sub_zero, List.take_length]
  exact h
def nameD (p : Str × D) : D := .t [.s p.1, p.2]
def PG.begun (p : PG) : Part → Option (List (Str × D))
  | .de f => (p.fOf f).map (·.params)
  | .en k => (p.kOf k).map fun kg => [(kg.x, kg.takes), (kg.n, kg.note)]
  | .he k q => (p.kOf k).bind fun kg => (kg.hOf q).bind fun r => (p.aOf q).map fun a => [(r.x, a.of), (r.h, .t [.s "hold", .s k, .s q]), (r.n, kg.note)]
theorem AG.at {H : Hp} {a : AG} {v : V} (h : Rep H a.d v) : ∃ (p : Addr) (va vb : V), v = .ref p ∧ H p = some (.tup [.str a.nm, va, vb]) ∧ Rep H a.of va := by
  obtain ⟨p, vs, rfl, hp, v0, _, rfl, e0, va, _, rfl, ra, vb, r, rfl, rb, er⟩ := h
  cases (show v0 = _ from e0)
  cases (show r = [] from er)
  exact ⟨p, va, vb, rfl, hp, ra⟩
structure BltBg (mg : Str → Option Value) : Prop where
  list : mg "list" = none
def spBegun : Sp := fun vs H Q _ => ∃ (v pv : V) (p : PG) (a : Part) (bs : List (Str × D)), vs = [v, pv] ∧ Rep H p.d v ∧ Rep H a.d pv ∧ p.Ok ∧ p.begun a = some bs ∧ ∀ (q : Addr) (us : List V) (H' : Hp), H q = none → H' q = some (.lst us) → Reps H' (bs.map nameD) us → Same H H' → Q (.ref q) H'
section
variable {P : Program} {w : World} {K : PySem.W.Frag} {mg : Str → Option Value} {base : Heap} {f1 : Addr} {d1 : FuncData}
theorem ok_begun_with {f : Addr} {fd : FuncData} (D : Fn K mg "begun_with" st_begun_with ["program", "part"] f fd) (T : BltBg mg) (D_row_named : Fn K mg "row_named" st_row_named ["rows", "name"] f1 d1) (G_row_named : FnOk P w K mg base CX0 1 f1 d1 ["rows", "name"] (spRowN K)) : FnOk P w K mg base CX0 2 f fd ["program", "part"] spBegun := by
  refine D.F.ok sc_begun_with (fun vs H Q E h => ?_) (fun cdv A outer s H vs Q E hr h => ?_)
  · obtain ⟨v, pv, p, a, b, rfl, _⟩ := h
    rfl
  · obtain ⟨v, pv, p, pa, bs, rfl, hv, hpa, ok, hb, k⟩ := h
    obtain ⟨t, a, kk, ff, ua, uk, uf, rfl, ht, ha, hk, hf, ra, rk, rf⟩ := PG.at hv
    obtain ⟨pp, rfl, hp⟩ := Part.at hpa
    refine ⟨_, (pss_cons (ps_if (pt_cmpR op_eq (pe_ix ix_tup (pv 1) pe_int (fun _ _ => rfl)) pe_str (nomark _)) (pss_one (ps_ret (pe_callTy call_list_of (by rfl) T.list (by decide +kernel) (pa_cons (pe_ix ix_tup (pe_call G_row_named (hr.mono (by decide)) rfl D_row_named.mg D_row_named.kp D_row_named.b .nil pass0 (pa_cons (pe_ix ix_tup (pv 0) pe_int (fun _ _ => rfl)) (pa_cons (pe_ix ix_tup (pv 1) pe_int (fun _ _ => rfl)) pa_nil))) pe_int (fun _ _ => rfl)) pa_nil)))) pss_nil)
      (pss_cons (ps_set (i := 2) sc_begun_with.nd rfl (Or.inl rfl) (pe_call G_row_named (hr.mono (by decide)) rfl D_row_named.mg D_row_named.kp D_row_named.b .nil pass0 (pa_cons (pe_ix ix_tup (pv 0) pe_int (fun _ _ => rfl)) (pa_cons (pe_ix ix_tup (pv 1) pe_int (fun _ _ => rfl)) pa_nil))))
      (pss_cons (ps_set (i := 3) sc_begun_with.nd rfl (Or.inl rfl) (pe_ix ix_tup (pv 2) pe_int (fun _ _ => rfl)))
      (pss_cons (ps_if (pt_cmpR op_eq (pe_ix ix_tup (pv 1) pe_int (fun _ _ => rfl)) pe_str (nomark _)) (pss_cons (ps_asg (pe_slice sl_tupA (pe_ix ix_tup (pv 2) pe_int (fun _ _ => rfl)) po_none (po_some pe_int)) (pg_tup (by rfl) (pgs_cons (pg_name (i := 4) sc_begun_with.nd rfl (Or.inl rfl)) (pgs_cons (pg_name (i := 5) sc_begun_with.nd rfl (Or.inl rfl)) pgs_nil))))
      (pss_one (ps_ret (pe_lst (pa_cons (pe_tup (pa_cons (pv 4) (pa_cons (pe_ix ix_tup (pv 2) pe_int (fun _ _ => rfl)) pa_nil))) (pa_cons (pe_tup (pa_cons (pv 5) (pa_cons (pv 3) pa_nil))) pa_nil)))))) pss_nil)
      (pss_cons (ps_asg (pe_slice sl_tupA (pe_call G_row_named (hr.mono (by decide)) rfl D_row_named.mg D_row_named.kp D_row_named.b .nil pass0 (pa_cons (pe_ix ix_tup (pv 2) pe_int (fun _ _ => rfl)) (pa_cons (pe_ix ix_tup (pv 1) pe_int (fun _ _ => rfl)) pa_nil))) po_none (po_some pe_int)) (pg_tup (by rfl) (pgs_cons (pg_name (i := 6) sc_begun_with.nd rfl (Or.inl rfl)) (pgs_cons (pg_name (i := 4) sc_begun_with.nd rfl (Or.inl rfl)) (pgs_cons (pg_name (i := 7) sc_begun_with.nd rfl (Or.inl rfl)) (pgs_cons (pg_name (i := 5) sc_begun_with.nd rfl (Or.inl rfl)) pgs_nil))))))
      (pss_cons (ps_set (i := 8) sc_begun_with.nd rfl (Or.inl rfl) (pe_ix ix_tup (pe_call G_row_named (hr.mono (by decide)) rfl D_row_named.mg D_row_named.kp D_row_named.b .nil pass0 (pa_cons (pe_ix ix_tup (pv 0) pe_int (fun _ _ => rfl)) (pa_cons (pv 6) pa_nil))) pe_int (fun _ _ => rfl)))
      (pss_one (ps_ret (pe_lst (pa_cons (pe_tup (pa_cons (pv 4) (pa_cons (pv 8) pa_nil))) (pa_cons (pe_tup (pa_cons (pv 7) (pa_cons (pe_tup (pa_cons pe_str (pa_cons (pe_ix ix_tup (pv 2) pe_int (fun _ _ => rfl)) (pa_cons (pv 6) pa_nil)))) pa_nil))) (pa_cons (pe_tup (pa_cons (pv 5) (pa_cons (pv 3) pa_nil))) pa_nil)))))))))))), ?_⟩
    cases pa with
    | de fn =>
      obtain ⟨fg, ef, rfl⟩ := Option.map_eq_some_iff.mp hb
      obtain ⟨ps, u, tl, rfl, e2, e3, e4, e5⟩ := find_row (nm := FG.nm) (fun r => ⟨_, rfl⟩) rf ef
      obtain ⟨pf, pps, vk, vb, uu, rfl, hpf, hps, ru, _, rb⟩ := FG.at e4
      refine ⟨_, rfl, pp, _, 0, _, rfl, rfl, SqT.of hp, at0 _ _, rfl, _, rfl, ite2 (fun _ => ?_) fun c => absurd (decide_eq_true rfl) c⟩
      refine ⟨_, rfl, t, _, 2, _, rfl, rfl, SqT.of ht, at_nat _ 2 rfl, _, rfl, pp, _, 1, _, rfl, rfl, SqT.of hp, at_nat _ 1 rfl, ff, fn, ps, .ref pf, rfl, SqT.of hf, e2, by have := ok.fs; omega, ⟨tl, e3⟩, fun J sJ => ⟨pf, _, 1, _, rfl, rfl, SqT.of (sJ _ _ hpf), at_nat _ 1 rfl, pps, _, rfl, .inr (SqT.of (sJ _ _ hps)), fun L hL => ?_⟩⟩
      have sL := Same.new (o := .lst uu) hL
      exact k L uu _ (sJ.free hL) upd_same (ru.mono (TupK.same (sJ.trans sL))) (sJ.trans sL)
    | en kn =>
      obtain ⟨kg, ek, rfl⟩ := Option.map_eq_some_iff.mp hb
      obtain ⟨ps, u, tl, rfl, e2, e3, e4, e5⟩ := find_row (nm := KG.nm) (fun r => ⟨_, rfl⟩) rk ek
      obtain ⟨pk, pe, hs, va, vb, vc, vl, ws, rfl, hpk, he, hh, rw1, rva, rvb, _, rl⟩ := KG.at e4
      refine ⟨_, rfl, pp, _, 0, _, rfl, rfl, SqT.of hp, at0 _ _, rfl, _, rfl, ite2 (fun c => absurd (V.str.inj (of_decide_eq_true c)) (show ¬ (("end" : Str) = "def") by decide +kernel)) fun _ => ?_⟩
      refine ⟨_, rfl, t, _, 1, _, rfl, rfl, SqT.of ht, at_nat _ 1 rfl, _, rfl, pp, _, 1, _, rfl, rfl, SqT.of hp, at_nat _ 1 rfl, kk, kn, ps, .ref pk, rfl, SqT.of hk, e2, by have := ok.ks; omega, ⟨tl, e3⟩, fun J sJ => ?_⟩
      refine ⟨_, rfl, pk, _, 1, _, rfl, rfl, SqT.of (sJ _ _ hpk), at_nat _ 1 rfl, ?_⟩
      refine ⟨_, rfl, pp, _, 0, _, rfl, rfl, SqT.of (sJ _ _ hp), at0 _ _, rfl, _, rfl, ite2 (fun _ => ?_) fun c => absurd (decide_eq_true rfl) c⟩
      refine ⟨_, rfl, pk, _, 4, _, rfl, rfl, SqT.of (sJ _ _ hpk), at_nat _ 4 rfl, 2, rfl, ?_⟩
      refine slA_use (sJ _ _ he) fun p2 J2 s2 h2 => ?_
      have h2 : J2 p2 = some (.tup [.str kg.x, .str kg.n]) := h2
      have s02 := sJ.trans s2
      refine ⟨p2, _, rfl, SqT.of h2, rfl, _, _, rfl, _, _, rfl, rfl, ?_⟩
      refine ⟨_, rfl, _, rfl, pk, _, 2, _, rfl, rfl, SqT.of (s02 _ _ hpk), at_nat _ 2 rfl, by show 2 ≤ sizeLine; decide, fun t1 ht1 => ⟨_, rfl, _, rfl, by show 2 ≤ sizeLine; decide, fun t2 ht2 => ⟨by show 2 ≤ sizeLine; decide, fun L hL => ?_⟩⟩⟩
      have q1 := Same.new (o := .tup [V.str kg.x, vb]) ht1
      have m1 := Rep.new (ds := [.s kg.x, kg.takes]) (vs := [V.str kg.x, vb]) ht1 (Reps.cons rfl (Reps.cons (rvb.mono (TupK.same s02)) rfl))
      have q2 := Same.new (o := .tup [V.str kg.n, va]) ht2
      have m2 := Rep.new (ds := [.s kg.n, kg.note]) (vs := [V.str kg.n, va]) ht2 (Reps.cons rfl (Reps.cons (rva.mono (TupK.same (s02.trans q1))) rfl))
      have qL := Same.new (o := .lst [V.ref t1, .ref t2]) hL
      exact k L [.ref t1, .ref t2] _ ((s02.trans (q1.trans q2)).free hL) upd_same (Reps.cons (m1.mono (TupK.same (q2.trans qL))) (Reps.cons (m2.mono (TupK.same qL)) rfl)) ((s02.trans (q1.trans q2)).trans qL)
    | he kn q =>
      obtain ⟨kg, ek, e6⟩ := Option.bind_eq_some_iff.mp hb
      obtain ⟨hg, eh, e7⟩ := Option.bind_eq_some_iff.mp e6
      obtain ⟨ag, ea, rfl⟩ := Option.map_eq_some_iff.mp e7
      obtain ⟨ps, u, tl, rfl, e2, e3, e4, e5⟩ := find_row (nm := KG.nm) (fun r => ⟨_, rfl⟩) rk ek
      obtain ⟨pk, pe, hs, va, vb, vc, vl, ws, rfl, hpk, he, hh, rw1, rva, rvb, _, rl⟩ := KG.at e4
      have mk : kg ∈ p.ks := List.mem_of_find?_eq_some ek
      have nk : kg.nm = kn := of_decide_eq_true (List.find?_some (p := fun z : KG => decide (z.nm = kn)) ek)
      have nq : hg.q = q := of_decide_eq_true (List.find?_some (p := fun z : HG => decide (z.q = q)) eh)
      refine ⟨_, rfl, pp, _, 0, _, rfl, rfl, SqT.of hp, at0 _ _, rfl, _, rfl, ite2 (fun c => absurd (V.str.inj (of_decide_eq_true c)) (show ¬ (("hear" : Str) = "def") by decide +kernel)) fun _ => ?_⟩
      refine ⟨_, rfl, t, _, 1, _, rfl, rfl, SqT.of ht, at_nat _ 1 rfl, _, rfl, pp, _, 1, _, rfl, rfl, SqT.of hp, at_nat _ 1 rfl, kk, kn, ps, .ref pk, rfl, SqT.of hk, e2, by have := ok.ks; omega, ⟨tl, e3⟩, fun J sJ => ?_⟩
      refine ⟨_, rfl, pk, _, 1, _, rfl, rfl, SqT.of (sJ _ _ hpk), at_nat _ 1 rfl, ?_⟩
      refine ⟨_, rfl, pp, _, 0, _, rfl, rfl, SqT.of (sJ _ _ hp), at0 _ _, rfl, _, rfl, ite2 (fun c => absurd (V.str.inj (of_decide_eq_true c)) (show ¬ (("hear" : Str) = "end") by decide +kernel)) fun _ => ?_⟩
      obtain ⟨qs, u2, tl2, rfl, g2, g3, g4, g5⟩ := find_row (nm := HG.q) (fun r => ⟨_, rfl⟩) (rw1.mono (TupK.same sJ)) eh
      obtain ⟨ph, vb2, rfl, hph, rb⟩ := HG.at g4
      refine ⟨_, rfl, pk, _, 5, _, rfl, rfl, SqT.of (sJ _ _ hpk), at_nat _ 5 rfl, _, rfl, pp, _, 2, _, rfl, rfl, SqT.of (sJ _ _ hp), at_nat _ 2 rfl, hs, q, qs, .ref ph, rfl, SqT.of (sJ _ _ hh), g2, by have := ok.hs kg mk; omega, ⟨tl2, g3⟩, fun J2 s2 => ⟨4, rfl, ?_⟩⟩
      refine slA_use (s2 _ _ hph) fun p3 J3 s3 h3 => ?_
      have h3 : J3 p3 = some (.tup [.str hg.q, .str hg.x, .str hg.h, .str hg.n]) := h3
      have s03 := (sJ.trans s2).trans s3
      refine ⟨p3, _, rfl, SqT.of h3, rfl, _, _, rfl, _, _, rfl, _, _, rfl, _, _, rfl, rfl, ?_⟩
      obtain ⟨as, u4, tl4, rfl, i2, i3, i4, i5⟩ := find_row (nm := AG.nm) (fun r => ⟨_, rfl⟩) (ra.mono (TupK.same s03)) ea
      obtain ⟨pa, vo, vg, rfl, hpa2, ro⟩ := AG.at i4
      refine ⟨_, rfl, t, _, 0, _, rfl, rfl, SqT.of (s03 _ _ ht), at0 _ _, _, rfl, a, hg.q, as, .ref pa, rfl, SqT.of (s03 _ _ ha), i2, by have := ok.as; omega, ⟨tl4, by rw [nq]; exact i3⟩, fun J4 s4 => ⟨pa, _, 1, _, rfl, rfl, SqT.of (s4 _ _ hpa2), at_nat _ 1 rfl, ?_⟩⟩
      have s04 := s03.trans s4
      refine ⟨_, rfl, _, rfl, by show 2 ≤ sizeLine; decide, fun t1 ht1 => ⟨_, rfl, _, rfl, pk, _, 0, _, rfl, rfl, SqT.of ((Same.new ht1) _ _ (s04 _ _ hpk)), at0 _ _, _, rfl, by show 3 ≤ sizeLine; decide, fun t2 ht2 => ⟨by show 2 ≤ sizeLine; decide, fun t3 ht3 => ⟨_, rfl, _, rfl, by show 2 ≤ sizeLine; decide, fun t4 ht4 => ⟨by show 3 ≤ sizeLine; decide, fun L hL => ?_⟩⟩⟩⟩⟩
      have q1 := Same.new (o := .tup [V.str hg.x, vo]) ht1
      have m1 := Rep.new (ds := [.s hg.x, ag.of]) (vs := [V.str hg.x, vo]) ht1 (Reps.cons rfl (Reps.cons (ro.mono (TupK.same s4)) rfl))
      have q2 := Same.new (o := .tup [V.str "hold", V.str kg.nm, V.str hg.q]) ht2
      have m2 := Rep.new (ds := [.s "hold", .s kg.nm, .s hg.q]) (vs := [V.str "hold", V.str kg.nm, V.str hg.q]) ht2 (Reps.cons rfl (Reps.cons rfl (Reps.cons rfl rfl)))
      have q3 := Same.new (o := .tup [V.str hg.h, .ref t2]) ht3
      have m3 := Rep.new (ds := [.s hg.h, .t [.s "hold", .s kg.nm, .s hg.q]]) (vs := [V.str hg.h, .ref t2]) ht3 (Reps.cons rfl (Reps.cons m2 rfl))
      have q4 := Same.new (o := .tup [V.str hg.n, va]) ht4
      have q13 := (q1.trans q2).trans q3
      have m4 := Rep.new (ds := [.s hg.n, kg.note]) (vs := [V.str hg.n, va]) ht4 (Reps.cons rfl (Reps.cons (rva.mono (TupK.same (s04.trans q13))) rfl))
      have qL := Same.new (o := .lst [V.ref t1, .ref t3, .ref t4]) hL
      have s05 := (s04.trans q13).trans q4
      refine k L [.ref t1, .ref t3, .ref t4] _ (s05.free hL) upd_same ?_ (s05.trans qL)
      rw [← nk, ← nq]
      exact Reps.cons (m1.mono (TupK.same ((q2.trans q3).trans (q4.trans qL)))) (Reps.cons (m3.mono (TupK.same (q4.trans qL))) (Reps.cons (m4.mono (TupK.same qL)) rfl))
end
end Ak
namespace Ak
open PySem L2
local macro_rules | `(tactic| walk_at "no attr") => `(tactic| exact rwF_no _ _ _ (by decide +kernel) (by decide +kernel) (by decide +kernel))
/-! ### the law's own list of pieces -/
abbrev st_l_pieces : Stmt := top 24
theorem sc_l_pieces : FnScope ["_law_body_here", "_law_inner", "_law_found", "_law_one"] ["_law_body_here"] (defScope st_l_pieces) := ⟨rfl, rfl, rfl, by decide +kernel, rfl, by decide +kernel, by decide +kernel⟩
def PT.dep : PT → Nat
  | .give _ => 1
  | .one _ _ b => b.dep + 1
  | .ifs _ b c => max b.dep c.dep + 1
  | .cas _ b _ _ c => max b.dep c.dep + 1
theorem PT.dep_pos (t : PT) : 1 ≤ t.dep := by cases t <;> simp [PT.dep]
theorem PT.all_kids (t : PT) : t.all = t :: t.kids.flatMap PT.all := by cases t <;> simp [PT.all, PT.kids]
theorem PT.kid {t u : PT} (h : u ∈ t.kids) (ok : t.Ok) : u.Ok ∧ u.dep + 1 ≤ t.dep ∧ u.all.length ≤ t.all.length := by
  cases t with
  | give ds => cases h
  | one s ds b =>
    rw [List.mem_singleton.mp h]
    exact ⟨ok.2, Nat.le_refl _, by show _ ≤ (PT.one s ds b :: b.all).length; rw [List.length_cons]; omega⟩
  | ifs a b c =>
    have h : u = b ∨ u = c := by simpa [PT.kids] using h
    have e : (PT.ifs a b c).all = .ifs a b c :: (b.all ++ c.all) := by simp [PT.all]
    rw [e, List.length_cons, List.length_append]
    rcases h with rfl | rfl
    · exact ⟨ok.1, by show _ ≤ max _ _ + 1; omega, by omega⟩
    · exact ⟨ok.2, by show _ ≤ max _ _ + 1; omega, by omega⟩
  | cas r b x y c =>
    have h : u = b ∨ u = c := by simpa [PT.kids] using h
    have e : (PT.cas r b x y c).all = .cas r b x y c :: (b.all ++ c.all) := by simp [PT.all]
    rw [e, List.length_cons, List.length_append]
    rcases h with rfl | rfl
    · exact ⟨ok.1, by show _ ≤ max _ _ + 1; omega, by omega⟩
    · exact ⟨ok.2, by show _ ≤ max _ _ + 1; omega, by omega⟩
/-- a piece's tuple: its word, what is between, its last -/
theorem PT.at {H : Hp} {t : PT} {v : V} (h : Rep H t.d v) (ok : t.Ok) : ∃ (p : Addr) (w : Str) (us : List V), v = .ref p ∧ H p = some (.tup (.str w :: us)) ∧ ((w = "give" ∧ ∃ ds, t = .give ds) ∨
    ((w ≠ "give" ∧ w ≠ "if" ∧ w ≠ "case") ∧ ∃ (s : Str) (ds : List D) (b : PT) (xs : List V) (vb : V), t = .one s ds b ∧ us = xs ++ [vb] ∧ Rep H b.d vb) ∨
    (w = "if" ∧ ∃ (a : D) (b c : PT) (va vb vc : V), t = .ifs a b c ∧ us = [va, vb, vc] ∧ Rep H b.d vb ∧ Rep H c.d vc) ∨
    (w = "case" ∧ ∃ (r : D) (b : PT) (x y : D) (c : PT) (vr vb vx vy vc : V), t = .cas r b x y c ∧ us = [vr, vb, vx, vy, vc] ∧ Rep H b.d vb ∧ Rep H c.d vc)) := by
  cases t with
  | give ds =>
    obtain ⟨p, vs, rfl, hp, _, r, rfl, rfl, hr'⟩ := h
    exact ⟨p, _, _, rfl, hp, .inl ⟨rfl, _, rfl⟩⟩
  | one s ds b =>
    obtain ⟨p, _, rfl, hp, _, r, rfl, rfl, hr'⟩ := h
    obtain ⟨us, vb, rfl, rb⟩ := reps_last hr'
    exact ⟨p, _, _, rfl, hp, .inr (.inl ⟨ok.1, _, _, _, _, _, rfl, rfl, rb⟩)⟩
  | ifs a b c =>
    obtain ⟨p, _, rfl, hp, _, _, rfl, rfl, va, _, rfl, ra, vb, _, rfl, rb, vc, _, rfl, rc, e⟩ := h
    cases e
    exact ⟨p, _, _, rfl, hp, .inr (.inr (.inl ⟨rfl, _, _, _, _, _, _, rfl, rfl, rb, rc⟩))⟩
  | cas r b x y c =>
    obtain ⟨p, _, rfl, hp, _, _, rfl, rfl, va, _, rfl, ra, vb, _, rfl, rb, vx, _, rfl, rx, vy, _, rfl, ry, vc, _, rfl, rc, e⟩ := h
    cases e
    exact ⟨p, _, _, rfl, hp, .inr (.inr (.inr ⟨rfl, _, _, _, _, _, _, _, _, _, _, rfl, rfl, rb, rc⟩))⟩
def spLPieces (n : Nat) : Sp := fun vs H Q _ => ∃ (v : V) (t : PT), vs = [v] ∧ Rep H t.d v ∧ t.Ok ∧ t.dep ≤ n ∧ t.all.length ≤ 100000 ∧ ∀ (q : Addr) (us : List V) (H' : Hp), H q = none → H' q = some (.lst us) → Reps H' (t.all.map PT.d) us → Same H H' → Q (.ref q) H'
section
variable {P : Program} {w : World} {K : PySem.W.Frag} {mg : Str → Option Value} {base : Heap}
theorem ok_l_pieces {f : Addr} {fd : FuncData} (D_l_pieces : Fn K mg "_law_pieces" st_l_pieces ["_law_body_here"] f fd) : ∀ n : Nat, FnOk P w K mg base CX0 (1 + n) f fd ["_law_body_here"] (spLPieces n)
  | 0 => D_l_pieces.F.ok sc_l_pieces (fun vs H Q E h => by
      obtain ⟨v, t, rfl, _⟩ := h
      rfl) (fun cdv A outer s H vs Q E hr h => by
      obtain ⟨v, t, rfl, _, _, hd, _⟩ := h
      exact absurd hd (by have := t.dep_pos; omega))
  | n + 1 => by
    have G_l_pieces := ok_l_pieces D_l_pieces n
    refine D_l_pieces.F.ok sc_l_pieces (fun vs H Q E h => ?_) (fun cdv A outer s H vs Q E hr h => ?_)
    · obtain ⟨v, t, rfl, _⟩ := h
      rfl
    · obtain ⟨v, t, rfl, hv, ok, hd, hl, k⟩ := h
      refine ⟨_, (pss_cons (ps_if (pt_cmpR op_eq (pe_ix ix_tup (pv 0) pe_int (fun _ _ => rfl)) pe_str (nomark _)) (pss_one (ps_ret (pe_lst (pa_cons (pv 0) pa_nil)))) pss_nil)
      (pss_cons (ps_set (i := 1) sc_l_pieces.nd rfl (Or.inl rfl) (pe_lst (pa_cons (pe_ix ix_tup (pv 0) (pe_un un_neg pe_int) (fun _ _ => rfl)) pa_nil)))
      (C8.pss_cut (ps_if (pt_cmpR op_eq (pe_ix ix_tup (pv 0) pe_int (fun _ _ => rfl)) pe_str (nomark _)) (pss_one (ps_set (i := 1) sc_l_pieces.nd rfl (Or.inl rfl) (pe_lst (pa_cons (pe_ix ix_tup (pv 0) pe_int (fun _ _ => rfl)) (pa_cons (pe_ix ix_tup (pv 0) pe_int (fun _ _ => rfl)) pa_nil))))) pss_nil)
      (C8.pss_cut (ps_if (pt_cmpR op_eq (pe_ix ix_tup (pv 0) pe_int (fun _ _ => rfl)) pe_str (nomark _)) (pss_one (ps_set (i := 1) sc_l_pieces.nd rfl (Or.inl rfl) (pe_lst (pa_cons (pe_ix ix_tup (pv 0) pe_int (fun _ _ => rfl)) (pa_cons (pe_ix ix_tup (pv 0) pe_int (fun _ _ => rfl)) pa_nil))))) pss_nil)
      (pss_cons (ps_set (i := 2) sc_l_pieces.nd rfl (Or.inl rfl) (pe_lst (pa_cons (pv 0) pa_nil)))
      (pss_cons (ps_for PassesOwn.never rfl (pi_list (pv 1)) (pg_name (i := 3) sc_l_pieces.nd rfl (Or.inl rfl)) (pss_one (ps_set (i := 2) sc_l_pieces.nd rfl (Or.inl rfl) (pe_op op_cat (pv 2) (pe_call G_l_pieces (hr.mono (by show _ ≤ 1 + n; omega)) rfl D_l_pieces.mg D_l_pieces.kp D_l_pieces.b .nil pass0 (pa_cons (pv 3) pa_nil))))))
      (pss_one (ps_ret (pv 2))))))))), ?_⟩
      obtain ⟨p, wd, us, rfl, hp, cs⟩ := PT.at hv ok
      have tst : ∀ {J : Hp}, Same H J → J p = some (.tup (.str wd :: us)) := fun s => s _ _ hp
      refine ⟨_, rfl, p, _, 0, _, rfl, rfl, SqT.of hp, at0 _ _, rfl, _, rfl, ite2 (fun c => ?_) fun c => ?_⟩
      · have hw := V.str.inj (of_decide_eq_true c)
        obtain ⟨ds, rfl⟩ : ∃ ds, t = .give ds := by
          rcases cs with ⟨_, h⟩ | ⟨h, _⟩ | ⟨h, _⟩ | ⟨h, _⟩
          · exact h
          · exact absurd hw h.1
          · rw [hw] at h; exact absurd h (by decide +kernel)
          · rw [hw] at h; exact absurd h (by decide +kernel)
        exact ⟨_, rfl, by show 1 ≤ sizeLine; decide, fun q hq => k q [.ref p] _ hq upd_same (Reps.cons (hv.mono (TupK.same (Same.new hq))) rfl) (Same.new hq)⟩
      · have hw : wd ≠ "give" := fun z => c (by rw [z]; exact decide_eq_true rfl)
        have cs : _ := cs.resolve_left fun z => hw z.1
        obtain ⟨vl, hlast⟩ : ∃ vl, atI (V.str wd :: us) (-1) = some vl := by
          rcases cs with ⟨_, s, ds, b, xs, vb, _, e, _⟩ | ⟨_, a, b, c, va, vb, vc, _, e, _⟩ | ⟨_, r, b, x, y, c, vr, vb, vx, vy, vc, _, e, _⟩
          · exact ⟨vb, by rw [e]; exact at_last (V.str wd :: xs) vb⟩
          · exact ⟨vc, by rw [e]; exact at_last [V.str wd, va, vb] vc⟩
          · exact ⟨vc, by rw [e]; exact at_last [V.str wd, vr, vb, vx, vy] vc⟩
        refine ⟨_, rfl, 1, rfl, p, _, -1, vl, rfl, rfl, SqT.of hp, hlast, by show 1 ≤ sizeLine; decide, fun I hI => ?_⟩
        have sI := Same.new (o := .lst [vl]) hI
        have aI := upd_same (H := H) (a := I) (o := .lst [vl])
        generalize upd H I (.lst [vl]) = J at sI aI ⊢
        refine ⟨fun σ J => Same H J ∧ ∃ I, σ = [some (.ref p), some (.ref I), none, none] ∧ (wd ≠ "case" → ∃ ui, J I = some (.lst ui) ∧ Reps J (t.kids.map PT.d) ui), ?_, fun σ J1 hw1 => ?_⟩
        · refine ⟨_, rfl, p, _, 0, _, rfl, rfl, SqT.of (tst sI), at0 _ _, rfl, _, rfl, ite2 (fun c => ?_) fun c => ?_⟩
          · have hw2 := V.str.inj (of_decide_eq_true c)
            rcases cs with ⟨h, _⟩ | ⟨_, a, b, c, va, vb, vc, rfl, rfl, rb, rc⟩ | ⟨h, _⟩
            · exact absurd hw2 h.2.1
            · refine ⟨_, rfl, p, _, 2, vb, rfl, rfl, SqT.of (tst sI), at_nat _ 2 rfl, _, rfl, p, _, 3, vc, rfl, rfl, SqT.of (tst sI), at_nat _ 3 rfl, by show 2 ≤ sizeLine; decide, fun q hq => ?_⟩
              have s2 := sI.trans (Same.new (o := .lst [vb, vc]) hq)
              exact ⟨s2, q, rfl, fun _ => ⟨[vb, vc], upd_same, Reps.cons (rb.mono (TupK.same s2)) (Reps.cons (rc.mono (TupK.same s2)) rfl)⟩⟩
            · rw [hw2] at h; exact absurd h (by decide +kernel)
          · have hw2 : wd ≠ "if" := fun z => c (by rw [z]; exact decide_eq_true rfl)
            refine ⟨sI, I, rfl, fun hc => ?_⟩
            rcases cs with ⟨_, s, ds, b, xs, vb, rfl, rfl, rb⟩ | ⟨h, _⟩ | ⟨h, _⟩
            · have : vb = vl := by
                have := (at_last (V.str wd :: xs) vb).symm.trans hlast
                exact Option.some.inj this
              subst this
              exact ⟨[vb], aI, Reps.cons (rb.mono (TupK.same sI)) rfl⟩
            · exact absurd h hw2
            · exact absurd h hc
        obtain ⟨s1, I1, rfl, h1⟩ := hw1
        refine ⟨fun σ J => Same H J ∧ ∃ I ui, σ = [some (.ref p), some (.ref I), none, none] ∧ J I = some (.lst ui) ∧ Reps J (t.kids.map PT.d) ui, ?_, fun σ J2 hw2 => ?_⟩
        · refine ⟨_, rfl, p, _, 0, _, rfl, rfl, SqT.of (tst s1), at0 _ _, rfl, _, rfl, ite2 (fun c => ?_) fun c => ?_⟩
          · have hw2 := V.str.inj (of_decide_eq_true c)
            rcases cs with ⟨h, _⟩ | ⟨h, _⟩ | ⟨_, r, b, x, y, c, vr, vb, vx, vy, vc, rfl, rfl, rb, rc⟩
            · exact absurd hw2 h.2.2
            · rw [hw2] at h; exact absurd h (by decide +kernel)
            · refine ⟨_, rfl, p, _, 2, vb, rfl, rfl, SqT.of (tst s1), at_nat _ 2 rfl, _, rfl, p, _, 5, vc, rfl, rfl, SqT.of (tst s1), at_nat _ 5 rfl, by show 2 ≤ sizeLine; decide, fun q hq => ?_⟩
              have s2 := s1.trans (Same.new (o := .lst [vb, vc]) hq)
              exact ⟨s2, q, [vb, vc], rfl, upd_same, Reps.cons (rb.mono (TupK.same s2)) (Reps.cons (rc.mono (TupK.same s2)) rfl)⟩
          · have hw2 : wd ≠ "case" := fun z => c (by rw [z]; exact decide_eq_true rfl)
            obtain ⟨ui, h2, h3⟩ := h1 hw2
            exact ⟨s1, I1, ui, rfl, h2, h3⟩
        obtain ⟨s2, I2, ui, rfl, hI2, ri⟩ := hw2
        clear h1 s1 aI sI hI
        refine ⟨_, rfl, by show 1 ≤ sizeLine; decide, fun F hF => ?_⟩
        have sF := Same.new (o := .lst [V.ref p]) hF
        have aF := upd_same (H := J2) (a := F) (o := .lst [V.ref p])
        have hIF := sF _ _ hI2
        have riF := ri.mono (TupK.same sF)
        have s3 := s2.trans sF
        have hF0 := s2.free hF
        generalize upd J2 F (.lst [V.ref p]) = J3 at sF aF hIF riF s3 ⊢
        have lui : ui.length = t.kids.length := by rw [Reps.len ri, List.length_map]
        refine ⟨_, rfl, I2, rfl, ⟨_, SqL.of hIF⟩, for_list (xs := ui) (fun i σ J => Same J3 J ∧ ∃ (F : Addr) (uf : List V) (o3 : Option V), σ = [some (.ref p), some (.ref I2), some (.ref F), o3] ∧ H F = none ∧ J F = some (.lst uf) ∧ Reps J ((t :: (t.kids.take i).flatMap PT.all).map PT.d) uf) ⟨Same.refl _, F, _, _, rfl, hF0, aF, Reps.cons (hv.mono (TupK.same s3)) rfl⟩ (fun i σ J _ q => SqL.of (q.1 _ _ hIF)) (fun i x σ J hx q => ?_) fun σ J q => ?_⟩
        · obtain ⟨sm, F1, uf, o3, rfl, hF1, hJ, ru⟩ := q
          have hi : i < t.kids.length := by have := (List.getElem?_eq_some_iff.mp hx).1; omega
          have et : t.kids[i]? = some t.kids[i] := List.getElem?_eq_getElem hi
          generalize t.kids[i] = u at et
          obtain ⟨ku, kd, kl⟩ := PT.kid (List.mem_of_getElem? et) ok
          obtain ⟨y, ey, ry⟩ := Reps.get (riF.mono (TupK.same sm)) (j := i) (d := u.d) (by rw [List.getElem?_map, et]; rfl)
          obtain rfl : y = x := by rw [ey] at hx; exact Option.some.inj hx
          have luf : uf.length ≤ 100000 := by
            have e := t.all_kids
            have : uf.length = ((t :: (t.kids.take i).flatMap PT.all)).length := by rw [Reps.len ru, List.length_map]
            have l2 : ((t.kids.take i).flatMap PT.all).length ≤ (t.kids.flatMap PT.all).length := by
              conv => rhs; rw [← List.take_append_drop i t.kids, List.flatMap_append, List.length_append]
              omega
            rw [e, List.length_cons] at hl
            rw [this, List.length_cons]; omega
          refine ⟨_, rfl, _, rfl, y, u, rfl, ry, ku, by omega, by omega, fun q us2 J5 hq0 hq2 rq s5 => ⟨F1, q, uf, us2, rfl, rfl, s5 _ _ hJ, hq2, Nat.le_trans (by have := Reps.len rq; rw [List.length_map] at this; omega : _ ≤ 200000) (by decide), fun F2 hF2 => ?_⟩⟩
          have s6 := s5.trans (Same.new (o := .lst (uf ++ us2)) hF2)
          refine ⟨sm.trans s6, F2, uf ++ us2, _, rfl, ((s3.trans sm).trans s5).free hF2, upd_same, ?_⟩
          rw [List.take_add_one, et, List.flatMap_append, ← List.cons_append, List.map_append]
          have : (Option.some u).toList.flatMap PT.all = u.all := by simp
          rw [this]
          exact Reps.append (ru.mono (TupK.same s6)) (rq.mono (TupK.same (Same.new hF2)))
        · obtain ⟨sm, F1, uf, o3, rfl, hF1, hJ, ru⟩ := q
          rw [lui, List.take_length, ← PT.all_kids] at ru
          exact ⟨_, rfl, k F1 uf _ hF1 hJ ru (s3.trans sm)⟩
end
end Ak
namespace Ak
open PySem L2
local macro_rules | `(tactic| walk_at "no attr") => `(tactic| exact rwF_no _ _ _ (by decide +kernel) (by decide +kernel) (by decide +kernel))
/-! ### the law's own list of parts -/
abbrev st_l_parts : Stmt := top 25
theorem sc_l_parts : FnScope ["_law_program_here", "_law_asks", "_law_keepers", "_law_functions", "_law_found", "_law_name", "_law_note", "_law_takes", "_law_gives", "_law_x", "_law_n", "_law_body_here", "_law_hears", "_law_q", "_law_h", "_law_inner", "_law_kind", "_law_params", "_law_ask"] ["_law_program_here"] (defScope st_l_parts) := ⟨rfl, rfl, rfl, by decide +kernel, rfl, by decide +kernel, by decide +kernel⟩
structure LP where
  a : Part
  bs : List (Str × D)
  b : PT
def LPAt (A : Addr → Prop) (H : Hp) (e : LP) (v : V) : Prop := ∃ (t bl : Addr) (pv bv : V) (ub : List V), v = .ref t ∧ H t = some (.tup [pv, .ref bl, bv]) ∧ Rep H e.a.d pv ∧ A bl ∧ H bl = some (.lst ub) ∧ Reps H (e.bs.map nameD) ub ∧ Rep H e.b.d bv
theorem LPAt.mono {A B : Addr → Prop} {H H' : Hp} {e : LP} {v : V} (h : LPAt A H e v) (tk : TupK H H') (w : ∀ b xs, A b → H b = some (.lst xs) → B b ∧ H' b = some (.lst xs)) : LPAt B H' e v := by
  obtain ⟨t, bl, pv, bv, ub, e1, h1, h2, h0, h3, h4, h5⟩ := h
  exact ⟨t, bl, pv, bv, ub, e1, tk _ _ h1, h2.mono tk, (w _ _ h0 h3).1, (w _ _ h0 h3).2, h4.mono tk, h5.mono tk⟩
theorem paired_mono {α β : Type} {F G : α → β → Prop} (h : ∀ a b, F a b → G a b) : ∀ {xs : List α} {ys : List β}, Paired F xs ys → Paired G xs ys
  | _, _, .nil => .nil
  | _, _, .cons a t => .cons (h _ _ a) (paired_mono h t)
theorem paired_app {α β : Type} {F : α → β → Prop} : ∀ {xs xs' : List α} {ys ys' : List β}, Paired F xs ys → Paired F xs' ys' → Paired F (xs ++ xs') (ys ++ ys')
  | _, _, _, _, .nil, h => h
  | _, _, _, _, .cons a t, h => .cons a (paired_app t h)
/-- what stands so far: the list L of what was found -/
structure LsP (H J : Hp) (L : Addr) (es : List LP) (us : List V) : Prop where
  s : Same H J
  l : J L = some (.lst us)
  p : Paired (LPAt (· ≠ L) J) es us
theorem LsP.same {H J J' : Hp} {L : Addr} {es : List LP} {us : List V} (h : LsP H J L es us) (k : Same J J') : LsP H J' L es us := ⟨h.s.trans k, k _ _ h.l, paired_mono (fun _ _ z => z.mono (TupK.same k) fun b xs n e => ⟨n, k _ _ e⟩) h.p⟩
theorem LsP.app {H J : Hp} {L : Addr} {es : List LP} {us : List V} {e : LP} {v : V} (h : LsP H J L es us) (hL : H L = none) (he : LPAt (· ≠ L) J e v) : LsP H (upd J L (.lst (us ++ [v]))) L (es ++ [e]) (us ++ [v]) := by
  have tk : TupK J (upd J L (.lst (us ++ [v]))) := tk_lst h.l
  have w : ∀ (b : Addr) (xs : List V), b ≠ L → J b = some (.lst xs) → b ≠ L ∧ (upd J L (.lst (us ++ [v]))) b = some (.lst xs) := fun b xs n e => ⟨n, (upd_ne n).trans e⟩
  exact ⟨fun b o e => by rw [upd_ne (ne_of_none e hL)]; exact h.s _ _ e, upd_same, paired_app (paired_mono (fun _ _ z => z.mono tk w) h.p) (.cons (he.mono tk w) .nil)⟩
def KG.lps (p : PG) (k : KG) : List LP := ⟨.en k.nm, [(k.x, k.takes), (k.n, k.note)], k.last⟩ :: k.hears.map fun r => ⟨.he k.nm r.q, [(r.x, ((p.aOf r.q).map (·.of)).getD (.i 0)), (r.h, .t [.s "hold", .s k.nm, .s r.q]), (r.n, k.note)], r.body⟩
def PG.lps (p : PG) : List LP := p.ks.flatMap (KG.lps p) ++ p.fs.map fun f => ⟨.de f.nm, f.params, f.body⟩
def spLParts : Sp := fun vs H Q _ => ∃ (v : V) (p : PG), vs = [v] ∧ Rep H p.d v ∧ p.Ok ∧ (∀ k ∈ p.ks, ∀ r ∈ k.hears, (p.aOf r.q).isSome = true) ∧ ∀ (q : Addr) (us : List V) (H' : Hp), H q = none → H' q = some (.lst us) → Paired (LPAt (fun _ => True) H') p.lps us → Same H H' → Q (.ref q) H'
/-- an entry just laid -/
theorem lpat_new {H : Hp} {L t bl : Addr} {pv bv : V} {ub : List V} {e : LP} (hbl : H bl = some (.lst ub)) (nb : bl ≠ L) (ht : H t = none) (h1 : Rep H e.a.d pv) (h2 : Reps H (e.bs.map nameD) ub) (h3 : Rep H e.b.d bv) : LPAt (· ≠ L) (upd H t (.tup [pv, .ref bl, bv])) e (.ref t) := by
  have s := Same.new (o := .tup [pv, .ref bl, bv]) ht
  exact ⟨t, bl, pv, bv, ub, rfl, upd_same, h1.mono (TupK.same s), nb, s _ _ hbl, h2.mono (TupK.same s), h3.mono (TupK.same s)⟩
section
variable {P : Program} {w : World} {K : PySem.W.Frag} {mg : Str → Option Value} {base : Heap}
theorem ok_l_parts {f : Addr} {fd : FuncData} (D : Fn K mg "_law_parts" st_l_parts ["_law_program_here"] f fd) (T : BltBg mg) : FnOk P w K mg base CX0 1 f fd ["_law_program_here"] spLParts := by
  refine D.F.ok sc_l_parts (fun vs H Q E h => ?_) (fun cdv A outer s H vs Q E hr h => ?_)
  · obtain ⟨v, p, rfl, _⟩ := h
    rfl
  · obtain ⟨v, p, rfl, hv, ok, hq, k⟩ := h
    obtain ⟨t, a, kk, ff, ua, uk, uf, rfl, ht, ha, hk, hf, ra, rk, rf⟩ := PG.at hv
    refine ⟨_, (pss_cons (ps_asg (pv 0) (pg_tup (by rfl) (pgs_cons (pg_name (i := 1) sc_l_parts.nd rfl (Or.inl rfl)) (pgs_cons (pg_name (i := 2) sc_l_parts.nd rfl (Or.inl rfl)) (pgs_cons (pg_name (i := 3) sc_l_parts.nd rfl (Or.inl rfl)) pgs_nil)))))
      (pss_cons (ps_set (i := 4) sc_l_parts.nd rfl (Or.inl rfl) (pe_lst pa_nil))
      (pss_cons (ps_for PassesOwn.never rfl (pi_tup (pv 2)) (pg_tup (by rfl) (pgs_cons (pg_name (i := 5) sc_l_parts.nd rfl (Or.inl rfl)) (pgs_cons (pg_name (i := 6) sc_l_parts.nd rfl (Or.inl rfl)) (pgs_cons (pg_name (i := 7) sc_l_parts.nd rfl (Or.inl rfl)) (pgs_cons (pg_name (i := 8) sc_l_parts.nd rfl (Or.inl rfl)) (pgs_cons (pg_tup (by rfl) (pgs_cons (pg_name (i := 9) sc_l_parts.nd rfl (Or.inl rfl)) (pgs_cons (pg_name (i := 10) sc_l_parts.nd rfl (Or.inl rfl)) (pgs_cons (pg_name (i := 11) sc_l_parts.nd rfl (Or.inl rfl)) pgs_nil)))) (pgs_cons (pg_name (i := 12) sc_l_parts.nd rfl (Or.inl rfl)) pgs_nil))))))) (pss_cons (ps_expr (pe_bm PySem.F.plainAttrs_list PySem.F.slot_list_append PySem.F.type_list_append mt_append (pv 4) (pa_cons (pe_tup (pa_cons (pe_tup (pa_cons pe_str (pa_cons (pv 5) pa_nil))) (pa_cons (pe_lst (pa_cons (pe_tup (pa_cons (pv 9) (pa_cons (pv 7) pa_nil))) (pa_cons (pe_tup (pa_cons (pv 10) (pa_cons (pv 6) pa_nil))) pa_nil))) (pa_cons (pv 11) pa_nil)))) pa_nil)))
      (pss_one (ps_for PassesOwn.never rfl (pi_tup (pv 12)) (pg_tup (by rfl) (pgs_cons (pg_name (i := 13) sc_l_parts.nd rfl (Or.inr rfl)) (pgs_cons (pg_name (i := 9) sc_l_parts.nd rfl (Or.inl rfl)) (pgs_cons (pg_name (i := 14) sc_l_parts.nd rfl (Or.inl rfl)) (pgs_cons (pg_name (i := 10) sc_l_parts.nd rfl (Or.inl rfl)) (pgs_cons (pg_name (i := 15) sc_l_parts.nd rfl (Or.inl rfl)) pgs_nil)))))) (pss_cons (ps_set (i := 16) sc_l_parts.nd rfl (Or.inl rfl) (pe_ix ix_list (pe_lc (own := [("_law_ask", 18)]) (g := gName 18) (tt := tTest (tOp rEq (tOp (rIxT K) (tVar 18) (tC (V.int 0))) (tVar 13))) (te := (tOp (rIxT K) (tVar 18) (tC (V.int 1)))) rfl sc_l_parts.nd (pi_tup (pv 1)) (blkOk_by (own := [("_law_ask", 18)]) (N := ["_law_program_here", "_law_asks", "_law_keepers", "_law_functions", "_law_found", "_law_name", "_law_note", "_law_takes", "_law_gives", "_law_x", "_law_n", "_law_body_here", "_law_hears", "_law_q", "_law_h", "_law_inner", "_law_kind", "_law_params", "_law_ask"]) (sc := defScope st_l_parts) (by decide +kernel)) (fun _ _ _ _ _ => (pg_name (i := 18) sc_l_parts.nd rfl (Or.inl rfl))) (fun _ _ _ _ _ => (pts_one (pt_cmpR op_eq (pe_ix ix_tup (pv 18) pe_int (fun _ _ => rfl)) (pv 13) (nomark _)))) (fun _ _ _ _ _ => (pe_ix ix_tup (pv 18) pe_int (fun _ _ => rfl)))) pe_int (fun _ _ => rfl)))
      (pss_one (ps_expr (pe_bm PySem.F.plainAttrs_list PySem.F.slot_list_append PySem.F.type_list_append mt_append (pv 4) (pa_cons (pe_tup (pa_cons (pe_tup (pa_cons pe_str (pa_cons (pv 5) (pa_cons (pv 13) pa_nil)))) (pa_cons (pe_lst (pa_cons (pe_tup (pa_cons (pv 9) (pa_cons (pv 16) pa_nil))) (pa_cons (pe_tup (pa_cons (pv 14) (pa_cons (pe_tup (pa_cons pe_str (pa_cons (pv 5) (pa_cons (pv 13) pa_nil)))) pa_nil))) (pa_cons (pe_tup (pa_cons (pv 10) (pa_cons (pv 6) pa_nil))) pa_nil)))) (pa_cons (pv 15) pa_nil)))) pa_nil)))))))))
      (pss_cons (ps_for PassesOwn.never rfl (pi_tup (pv 3)) (pg_tup (by rfl) (pgs_cons (pg_name (i := 5) sc_l_parts.nd rfl (Or.inl rfl)) (pgs_cons (pg_name (i := 17) sc_l_parts.nd rfl (Or.inl rfl)) (pgs_cons (pg_name (i := 16) sc_l_parts.nd rfl (Or.inl rfl)) (pgs_cons (pg_name (i := 11) sc_l_parts.nd rfl (Or.inl rfl)) pgs_nil))))) (pss_one (ps_expr (pe_bm PySem.F.plainAttrs_list PySem.F.slot_list_append PySem.F.type_list_append mt_append (pv 4) (pa_cons (pe_tup (pa_cons (pe_tup (pa_cons pe_str (pa_cons (pv 5) pa_nil))) (pa_cons (pe_callTy call_list_of (by rfl) T.list (by decide +kernel) (pa_cons (pv 17) pa_nil)) (pa_cons (pv 11) pa_nil)))) pa_nil)))))
      (pss_one (ps_ret (pv 4))))))), ?_⟩
    refine ⟨_, rfl, t, _, rfl, SqT.of ht, rfl, _, _, rfl, _, _, rfl, _, _, rfl, rfl, ?_⟩
    refine ⟨Nat.zero_le _, fun L hL => ?_⟩
    have sL := Same.new (o := .lst []) hL
    have aL := upd_same (H := H) (a := L) (o := .lst [])
    generalize upd H L (.lst []) = J0 at sL aL ⊢
    have lk := Reps.len rk
    have lf := Reps.len rf
    have la := Reps.len ra
    rw [List.length_map] at lk lf la
    refine ⟨_, rfl, kk, rfl, ⟨_, SqT.of (sL _ _ hk)⟩, for_it (walk_tup (xs := uk)) (fun i σ J => ∃ (us : List V) (o5 o6 o7 o8 o9 o10 o11 o12 o13 o14 o15 o16 : Option V), σ = [some (.ref t), some (.ref a), some (.ref kk), some (.ref ff), some (.ref L), o5, o6, o7, o8, o9, o10, o11, o12, o13, o14, o15, o16, none, none] ∧ LsP H J L ((p.ks.take i).flatMap (KG.lps p)) us ∧ us.length ≤ 101 * i) ⟨[], _, _, _, _, _, _, _, _, _, _, _, _, rfl, ⟨sL, aL, .nil⟩, Nat.zero_le _⟩ (fun i σ J _ q => ?_) (fun i x σ J J' hi q y => ?_) fun σ J q => ?_⟩
    · obtain ⟨us, o5, o6, o7, o8, o9, o10, o11, o12, o13, o14, o15, o16, rfl, hP, _⟩ := q
      exact SqT.of (hP.s _ _ hk)
    · obtain ⟨us, o5, o6, o7, o8, o9, o10, o11, o12, o13, o14, o15, o16, rfl, hP, lu⟩ := q
      obtain ⟨rfl, ex⟩ := y
      rw [lk] at hi
      have et : p.ks[i]? = some p.ks[i] := List.getElem?_eq_getElem hi
      have hm := List.mem_of_getElem? et
      generalize p.ks[i] = kg at et hm
      obtain ⟨y, ey, ry⟩ := Reps.get rk (j := i) (d := kg.d) (by rw [List.getElem?_map, et]; rfl)
      obtain rfl : y = x := by rw [ey] at ex; exact Option.some.inj ex
      obtain ⟨pk, pe, hs, va, vb, vc, vl, ws, rfl, hpk, he, hh, rw1, rva, rvb, rvc, rvl⟩ := KG.at ry
      have lw := Reps.len rw1
      rw [List.length_map] at lw
      have s0 := hP.s
      refine ⟨pk, _, rfl, SqT.of (s0 _ _ hpk), rfl, _, _, rfl, _, _, rfl, _, _, rfl, _, _, rfl, _, _, rfl, ⟨pe, _, rfl, SqT.of (s0 _ _ he), rfl, _, _, rfl, _, _, rfl, _, _, rfl, rfl, _, _, rfl, rfl, ?_⟩⟩
      have lk100 := ok.ks
      have lh100 := ok.hs kg hm
      refine ⟨_, rfl, .inl ⟨rfl, _, SqL.of hP.l⟩, _, rfl, by show 2 ≤ sizeLine; decide, fun t1 ht1 => ⟨_, rfl, _, rfl, by show 2 ≤ sizeLine; decide, fun t2 ht2 => ⟨_, rfl, _, rfl, by show 2 ≤ sizeLine; decide, fun t3 ht3 => ⟨by show 2 ≤ sizeLine; decide, fun bl hbl => ⟨_, rfl, by show 3 ≤ sizeLine; decide, fun t4 ht4 => ?_⟩⟩⟩⟩⟩
      have q1 := Same.new (o := .tup [V.str "end", V.str kg.nm]) ht1
      have m1 := Rep.new (ds := [.s "end", .s kg.nm]) (vs := [V.str "end", V.str kg.nm]) ht1 (Reps.cons rfl (Reps.cons rfl rfl))
      have q2 := Same.new (o := .tup [V.str kg.x, vb]) ht2
      have m2 := Rep.new (ds := [.s kg.x, kg.takes]) (vs := [V.str kg.x, vb]) ht2 (Reps.cons rfl (Reps.cons (rvb.mono (TupK.same (s0.trans q1))) rfl))
      have q3 := Same.new (o := .tup [V.str kg.n, va]) ht3
      have m3 := Rep.new (ds := [.s kg.n, kg.note]) (vs := [V.str kg.n, va]) ht3 (Reps.cons rfl (Reps.cons (rva.mono (TupK.same ((s0.trans q1).trans q2))) rfl))
      have q4 := Same.new (o := .lst [V.ref t2, .ref t3]) hbl
      have q14 := ((q1.trans q2).trans q3).trans q4
      have nbl : bl ≠ L := (ne_of_none (((q1.trans q2).trans q3) _ _ hP.l) hbl).symm
      have q5 := Same.new (o := .tup [V.ref t1, .ref bl, vl]) ht4
      have E1 := lpat_new (e := ⟨.en kg.nm, [(kg.x, kg.takes), (kg.n, kg.note)], kg.last⟩) (pv := .ref t1) (bv := vl) upd_same nbl ht4 (m1.mono (TupK.same ((q2.trans q3).trans q4))) (Reps.cons (m2.mono (TupK.same (q3.trans q4))) (Reps.cons (m3.mono (TupK.same q4)) rfl)) (rvl.mono (TupK.same (s0.trans q14)))
      have P1 := (hP.same (q14.trans q5)).app hL E1
      have hL5 := (hP.same (q14.trans q5)).l
      refine ⟨L, us, _, rfl, rfl, hL5, Nat.lt_of_le_of_lt (by omega : _ ≤ 20000) (by decide), ?_⟩
      have sP := P1.s
      generalize upd (upd (upd (upd (upd (upd J' t1 (.tup [V.str "end", V.str kg.nm])) t2 (.tup [V.str kg.x, vb])) t3 (.tup [V.str kg.n, va])) bl (.lst [V.ref t2, .ref t3])) t4 (.tup [V.ref t1, .ref bl, vl])) L (.lst (us ++ [.ref t4])) = J1 at P1 sP ⊢
      refine ⟨_, rfl, hs, rfl, ⟨_, SqT.of (sP _ _ hh)⟩, for_it (walk_tup (xs := ws)) (fun j σ J => ∃ (us : List V) (o9 o10 o13 o14 o15 o16 : Option V), σ = [some (.ref t), some (.ref a), some (.ref kk), some (.ref ff), some (.ref L), some (.str kg.nm), some va, some vb, some vc, o9, o10, some vl, some (.ref hs), o13, o14, o15, o16, none, none] ∧ LsP H J L ((p.ks.take i).flatMap (KG.lps p) ++ (KG.lps p kg).take (j + 1)) us ∧ us.length ≤ 101 * i + 1 + j) ⟨_, _, _, _, _, _, _, rfl, P1, by rw [List.length_append]; show _ + 1 ≤ _; omega⟩ (fun j σ J _ q => ?_) (fun j x σ J J' hj q y => ?_) fun σ J q => ?_⟩
      · obtain ⟨us, o9, o10, o13, o14, o15, o16, rfl, hP, _⟩ := q
        exact SqT.of (hP.s _ _ hh)
      · obtain ⟨us, o9, o10, o13, o14, o15, o16, rfl, hP, lu⟩ := q
        obtain ⟨rfl, ex⟩ := y
        rw [lw] at hj
        have et2 : kg.hears[j]? = some kg.hears[j] := List.getElem?_eq_getElem hj
        have hm2 := List.mem_of_getElem? et2
        generalize kg.hears[j] = hg at et2 hm2
        obtain ⟨y, ey, ry⟩ := Reps.get rw1 (j := j) (d := hg.d) (by rw [List.getElem?_map, et2]; rfl)
        obtain rfl : y = x := by rw [ey] at ex; exact Option.some.inj ex
        obtain ⟨ph, vb2, rfl, hph, rb⟩ := HG.at ry
        have s0 := hP.s
        refine ⟨ph, _, rfl, SqT.of (s0 _ _ hph), rfl, _, _, rfl, _, _, rfl, _, _, rfl, _, _, rfl, _, _, rfl, rfl, ?_⟩
        have haJ := s0 _ _ ha
        have raJ := ra.mono (TupK.same s0)
        refine ⟨_, rfl, a, rfl, ⟨_, SqT.of haJ⟩, fun M hM => lc_it (walk_tup (xs := ua)) (fun i G => Same J' G ∧ ∃ vals, G M = some (.lst vals) ∧ vals.length ≤ i ∧ (∀ ag, (p.as.take i).find? (fun z => decide (z.nm = hg.q)) = some ag → ∃ v0 tl, vals = v0 :: tl ∧ Rep G ag.of v0) ∧ ((p.as.take i).find? (fun z => decide (z.nm = hg.q)) = none → vals = [])) ⟨Same.new hM, [], upd_same, Nat.le_refl _, (fun _ z => nomatch z), fun _ => rfl⟩ (fun i G _ z => SqT.of (z.1 _ _ haJ)) (fun i x G G1 hi z yy => ?_) fun G z => ?_⟩
        · obtain ⟨rfl, ex⟩ := yy
          obtain ⟨sG, vals, hG, lv, hv2, hv3⟩ := z
          rw [la] at hi
          have eti : p.as[i]? = some p.as[i] := List.getElem?_eq_getElem hi
          generalize p.as[i] = ai at eti
          obtain ⟨y, ey, ry⟩ := Reps.get (raJ.mono (TupK.same sG)) (j := i) (d := ai.d) (by rw [List.getElem?_map, eti]; rfl)
          obtain rfl : y = x := by rw [ey] at ex; exact Option.some.inj ex
          obtain ⟨pa, vo, vg, rfl, hpa, ro⟩ := AG.at ry
          have ef : (p.as.take (i + 1)).find? (fun z => decide (z.nm = hg.q)) = ((p.as.take i).find? (fun z => decide (z.nm = hg.q))).or (if ai.nm = hg.q then some ai else none) := by
            rw [List.take_add_one, eti, List.find?_append]
            congr 1
            show List.find? _ [ai] = _
            by_cases hn : ai.nm = hg.q
            · rw [if_pos hn, List.find?_cons, decide_eq_true hn]
            · rw [if_neg hn, List.find?_cons, decide_eq_false hn]; rfl
          refine ⟨rfl, ?_⟩
          refine ⟨_, rfl, pa, _, 0, _, rfl, rfl, SqT.of hpa, at0 _ _, _, rfl, rfl, _, rfl, ite2 (fun c => ?_) fun c => ?_⟩
          · have hn := V.str.inj (of_decide_eq_true c)
            have has := ok.as
            refine ⟨_, rfl, pa, _, 1, _, rfl, rfl, SqT.of hpa, at_nat _ 1 rfl, _, hG, Nat.lt_of_le_of_lt (by omega : _ ≤ 1000) (by decide), fun b o e => ?_, vals ++ [vo], upd_same, by rw [List.length_append]; show _ + 1 ≤ _; omega, fun ag h => ?_, fun h => ?_⟩
            · rw [upd_ne (ne_of_none e hM)]; exact sG _ _ e
            · have tkM : TupK G1 (upd G1 M (.lst (vals ++ [vo]))) := tk_lst hG
              rw [ef, if_pos hn] at h
              cases ez : (p.as.take i).find? (fun z => decide (z.nm = hg.q)) with
              | some z =>
                rw [ez] at h
                obtain rfl : z = ag := Option.some.inj h
                obtain ⟨v0, tl, e1, e2⟩ := hv2 z ez
                exact ⟨v0, tl ++ [vo], by rw [e1]; rfl, e2.mono tkM⟩
              | none =>
                rw [ez] at h
                obtain rfl : ai = ag := Option.some.inj h
                rw [hv3 ez]
                exact ⟨vo, [], rfl, (ro.mono (by rw [hv3 ez] at tkM; exact tkM))⟩
            · rw [ef, if_pos hn] at h
              cases ez : (p.as.take i).find? (fun z => decide (z.nm = hg.q)) with
              | some z => rw [ez] at h; cases h
              | none => rw [ez] at h; cases h
          · have hn : ¬ ai.nm = hg.q := fun z => c (by rw [z]; exact decide_eq_true rfl)
            refine ⟨sG, vals, hG, by omega, fun ag h => hv2 ag ?_, fun h => hv3 ?_⟩
            · rw [ef, if_neg hn] at h
              simpa using h
            · rw [ef, if_neg hn] at h
              simpa using h
        · obtain ⟨sG, vals, hG, lv, hv2, _⟩ := z
          rw [la, List.take_length] at hv2
          have hq2 := hq kg hm hg hm2
          obtain ⟨ag, eag⟩ := Option.isSome_iff_exists.mp hq2
          obtain ⟨vo, tl, rfl, ro⟩ := hv2 ag eag
          have hPG := hP.same sG
          have s0 := hPG.s
          refine ⟨M, _, 0, _, rfl, rfl, SqL.of hG, at0 _ _, ?_⟩
          refine ⟨_, rfl, .inl ⟨rfl, _, SqL.of hPG.l⟩, _, rfl, _, rfl, by show 3 ≤ sizeLine; decide, fun t1 ht1 => ⟨_, rfl, _, rfl, by show 2 ≤ sizeLine; decide, fun t2 ht2 => ⟨_, rfl, _, rfl, _, rfl, by show 3 ≤ sizeLine; decide, fun t3 ht3 => ⟨by show 2 ≤ sizeLine; decide, fun t4 ht4 => ⟨_, rfl, _, rfl, by show 2 ≤ sizeLine; decide, fun t5 ht5 => ⟨by show 3 ≤ sizeLine; decide, fun bl hbl => ⟨_, rfl, by show 3 ≤ sizeLine; decide, fun t6 ht6 => ?_⟩⟩⟩⟩⟩⟩⟩
          have q1 := Same.new (o := .tup [V.str "hear", V.str kg.nm, V.str hg.q]) ht1
          have m1 := Rep.new (ds := [.s "hear", .s kg.nm, .s hg.q]) (vs := [V.str "hear", V.str kg.nm, V.str hg.q]) ht1 (Reps.cons rfl (Reps.cons rfl (Reps.cons rfl rfl)))
          have q2 := Same.new (o := .tup [V.str hg.x, vo]) ht2
          have m2 := Rep.new (ds := [.s hg.x, ag.of]) (vs := [V.str hg.x, vo]) ht2 (Reps.cons rfl (Reps.cons (ro.mono (TupK.same q1)) rfl))
          have q3 := Same.new (o := .tup [V.str "hold", V.str kg.nm, V.str hg.q]) ht3
          have m3 := Rep.new (ds := [.s "hold", .s kg.nm, .s hg.q]) (vs := [V.str "hold", V.str kg.nm, V.str hg.q]) ht3 (Reps.cons rfl (Reps.cons rfl (Reps.cons rfl rfl)))
          have q4 := Same.new (o := .tup [V.str hg.h, .ref t3]) ht4
          have m4 := Rep.new (ds := [.s hg.h, .t [.s "hold", .s kg.nm, .s hg.q]]) (vs := [V.str hg.h, .ref t3]) ht4 (Reps.cons rfl (Reps.cons m3 rfl))
          have q14 := ((q1.trans q2).trans q3).trans q4
          have q5 := Same.new (o := .tup [V.str hg.n, va]) ht5
          have m5 := Rep.new (ds := [.s hg.n, kg.note]) (vs := [V.str hg.n, va]) ht5 (Reps.cons rfl (Reps.cons (rva.mono (TupK.same (s0.trans q14))) rfl))
          have q15 := q14.trans q5
          have q6 := Same.new (o := .lst [V.ref t2, .ref t4, .ref t5]) hbl
          have q16 := q15.trans q6
          have nbl : bl ≠ L := (ne_of_none (q15 _ _ hPG.l) hbl).symm
          have q7 := Same.new (o := .tup [V.ref t1, .ref bl, vb2]) ht6
          have E1 := lpat_new (e := ⟨.he kg.nm hg.q, [(hg.x, ag.of), (hg.h, .t [.s "hold", .s kg.nm, .s hg.q]), (hg.n, kg.note)], hg.body⟩) (pv := .ref t1) (bv := vb2) upd_same nbl ht6 (m1.mono (TupK.same ((q2.trans q3).trans ((q4.trans q5).trans q6)))) (Reps.cons (m2.mono (TupK.same ((q3.trans q4).trans (q5.trans q6)))) (Reps.cons (m4.mono (TupK.same (q5.trans q6))) (Reps.cons (m5.mono (TupK.same q6)) rfl))) (rb.mono (TupK.same (s0.trans q16)))
          have hL7 := (hPG.same (q16.trans q7)).l
          have P1 := (hPG.same (q16.trans q7)).app hL E1
          refine ⟨L, us, _, rfl, rfl, hL7, Nat.lt_of_le_of_lt (by omega : _ ≤ 20000) (by decide), ?_⟩
          refine ⟨us ++ [.ref t6], _, _, _, _, _, _, rfl, ?_, by rw [List.length_append]; show us.length + 1 ≤ _; omega⟩
          have e3 : (KG.lps p kg).take (j + 1 + 1) = (KG.lps p kg).take (j + 1) ++ [⟨.he kg.nm hg.q, [(hg.x, ag.of), (hg.h, .t [.s "hold", .s kg.nm, .s hg.q]), (hg.n, kg.note)], hg.body⟩] := by
            rw [List.take_add_one]
            congr 1
            unfold KG.lps
            rw [List.getElem?_cons_succ, List.getElem?_map, et2]
            have : p.aOf hg.q = some ag := eag
            rw [Option.map_some, this]; rfl
          rw [e3, ← List.append_assoc]
          exact P1
      · obtain ⟨us, o9, o10, o13, o14, o15, o16, rfl, hP, lu⟩ := q
        refine ⟨us, _, _, _, _, _, _, _, _, _, _, _, _, rfl, ?_, by omega⟩
        rw [List.take_add_one, et, List.flatMap_append]
        have e1 : (KG.lps p kg).take (ws.length + 1) = KG.lps p kg := by
          rw [List.take_of_length_le]
          unfold KG.lps
          rw [List.length_cons, List.length_map, lw]; exact Nat.le_refl _
        rw [e1] at hP
        have : (Option.some kg).toList.flatMap (KG.lps p) = KG.lps p kg := by simp
        rw [this]
        exact hP
    · obtain ⟨us, o5, o6, o7, o8, o9, o10, o11, o12, o13, o14, o15, o16, rfl, hP, lu⟩ := q
      rw [lk, List.take_length] at hP
      rw [lk] at lu
      have lk100 := ok.ks
      have lf100 := ok.fs
      refine ⟨_, rfl, ff, rfl, ⟨_, SqT.of (hP.s _ _ hf)⟩, for_it (walk_tup (xs := uf)) (fun i σ J => ∃ (us : List V) (o5 o6 o7 o8 o9 o10 o11 o12 o13 o14 o15 o16 o17 : Option V), σ = [some (.ref t), some (.ref a), some (.ref kk), some (.ref ff), some (.ref L), o5, o6, o7, o8, o9, o10, o11, o12, o13, o14, o15, o16, o17, none] ∧ LsP H J L (p.ks.flatMap (KG.lps p) ++ (p.fs.take i).map fun f => ⟨.de f.nm, f.params, f.body⟩) us ∧ us.length ≤ 101 * p.ks.length + i) ⟨us, _, _, _, _, _, _, _, _, _, _, _, _, _, rfl, by simpa using hP, lu⟩ (fun i σ J _ q => ?_) (fun i x σ J J' hi q y => ?_) fun σ J q => ?_⟩
      · obtain ⟨us, o5, o6, o7, o8, o9, o10, o11, o12, o13, o14, o15, o16, o17, rfl, hP, _⟩ := q
        exact SqT.of (hP.s _ _ hf)
      · obtain ⟨us, o5, o6, o7, o8, o9, o10, o11, o12, o13, o14, o15, o16, o17, rfl, hP, lu⟩ := q
        obtain ⟨rfl, ex⟩ := y
        rw [lf] at hi
        have et : p.fs[i]? = some p.fs[i] := List.getElem?_eq_getElem hi
        generalize p.fs[i] = fg at et
        obtain ⟨y, ey, ry⟩ := Reps.get rf (j := i) (d := fg.d) (by rw [List.getElem?_map, et]; rfl)
        obtain rfl : y = x := by rw [ey] at ex; exact Option.some.inj ex
        obtain ⟨pf, ps, vk, vb, uu, rfl, hpf, hps, ru, _, rb⟩ := FG.at ry
        have s0 := hP.s
        refine ⟨pf, _, rfl, SqT.of (s0 _ _ hpf), rfl, _, _, rfl, _, _, rfl, _, _, rfl, _, _, rfl, rfl, ?_⟩
        refine ⟨_, rfl, .inl ⟨rfl, _, SqL.of hP.l⟩, _, rfl, by show 2 ≤ sizeLine; decide, fun t1 ht1 => ⟨_, rfl, ps, _, rfl, .inr (SqT.of ((Same.new ht1) _ _ (s0 _ _ hps))), fun bl hbl => ⟨_, rfl, by show 3 ≤ sizeLine; decide, fun t2 ht2 => ?_⟩⟩⟩
        have q1 := Same.new (o := .tup [V.str "def", V.str fg.nm]) ht1
        have m1 := Rep.new (ds := [.s "def", .s fg.nm]) (vs := [V.str "def", V.str fg.nm]) ht1 (Reps.cons rfl (Reps.cons rfl rfl))
        have q2 := Same.new (o := .lst uu) hbl
        have nbl : bl ≠ L := (ne_of_none (q1 _ _ hP.l) hbl).symm
        have q3 := Same.new (o := .tup [V.ref t1, .ref bl, vb]) ht2
        have E1 := lpat_new (e := ⟨.de fg.nm, fg.params, fg.body⟩) (pv := .ref t1) (bv := vb) upd_same nbl ht2 (m1.mono (TupK.same q2)) (ru.mono (TupK.same (s0.trans (q1.trans q2)))) (rb.mono (TupK.same (s0.trans (q1.trans q2))))
        have hL7 := (hP.same ((q1.trans q2).trans q3)).l
        have P1 := (hP.same ((q1.trans q2).trans q3)).app hL E1
        refine ⟨L, us, _, rfl, rfl, hL7, Nat.lt_of_le_of_lt (by omega : _ ≤ 20000) (by decide), ?_⟩
        refine ⟨us ++ [.ref t2], _, _, _, _, _, _, _, _, _, _, _, _, _, rfl, ?_, by rw [List.length_append]; show us.length + 1 ≤ _; omega⟩
        rw [List.take_add_one, et, List.map_append, ← List.append_assoc]
        exact P1
      · obtain ⟨us, o5, o6, o7, o8, o9, o10, o11, o12, o13, o14, o15, o16, o17, rfl, hP, lu⟩ := q
        rw [lf, List.take_length] at hP
        exact ⟨_, rfl, k L us _ hL hP.l (paired_mono (fun _ _ z => z.mono (fun _ _ e => e) fun b xs _ e => ⟨trivial, e⟩) hP.p) hP.s⟩
end
end Ak
namespace Ak
open PySem L2
local macro_rules | `(tactic| walk_at "no attr") => `(tactic| exact rwF_no _ _ _ (by decide +kernel) (by decide +kernel) (by decide +kernel))
/-! ### heads put round a body -/
abbrev st_l_closed : Stmt := top 20
theorem sc_l_closed : FnScope ["_law_heads_here", "_law_body_here", "_law_head"] ["_law_heads_here", "_law_body_here"] (defScope st_l_closed) := ⟨rfl, rfl, rfl, by decide +kernel, rfl, by decide +kernel, by decide +kernel⟩
def closeT (hs : List (Str × List D)) (t : PT) : PT := hs.foldr (fun h t => .one h.1 h.2 t) t
structure BltCl (mg : Str → Option Value) : Prop where
  reversed : mg "reversed" = none
def spClosed : Sp := fun vs H Q _ => ∃ (L : Addr) (v : V) (us : List V) (hs : List (Str × List D)) (t : PT), vs = [.ref L, v] ∧ H L = some (.lst us) ∧ Reps H (hs.map fun h => .t (.s h.1 :: h.2)) us ∧ (∀ h ∈ hs, h.2.length ≤ 100) ∧ hs.length ≤ 1000 ∧ Rep H t.d v ∧ ∀ (u : V) (H' : Hp), Rep H' (closeT hs t).d u → Same H H' → Q u H'
section
variable {P : Program} {w : World} {K : PySem.W.Frag} {mg : Str → Option Value} {base : Heap}
theorem ok_l_closed {f : Addr} {fd : FuncData} (D : Fn K mg "_law_closed" st_l_closed ["_law_heads_here", "_law_body_here"] f fd) (T : BltCl mg) : FnOk P w K mg base CX0 1 f fd ["_law_heads_here", "_law_body_here"] spClosed := by
  refine D.F.ok sc_l_closed (fun vs H Q E h => ?_) (fun cdv A outer s H vs Q E hr h => ?_)
  · obtain ⟨L, v, us, hs, t, rfl, _⟩ := h
    rfl
  · obtain ⟨L, v, us, hs, t, rfl, hL, ru, h1, h2, rv, k⟩ := h
    refine ⟨_, (pss_cons (ps_for PassesOwn.never rfl (pi_reversed rfl T.reversed (pa_cons (pv 0) pa_nil)) (pg_name (i := 2) sc_l_closed.nd rfl (Or.inl rfl)) (pss_one (ps_set (i := 1) sc_l_closed.nd rfl (Or.inl rfl) (pe_op op_catT (pv 2) (pe_tup (pa_cons (pv 1) pa_nil))))))
      (pss_one (ps_ret (pv 1)))), ?_⟩
    have lu := Reps.len ru
    rw [List.length_map] at lu
    refine ⟨_, rfl, L, us, rfl, SqL.of hL, ?_⟩
    refine for_it (walk_rev (xs := us)) (fun i σ J => Same H J ∧ ∃ (u : V) (o2 : Option V), σ = [some (.ref L), some u, o2] ∧ Rep J (closeT (hs.drop (hs.length - i)) t).d u) ⟨Same.refl H, v, _, rfl, by rw [Nat.sub_zero, List.drop_length]; exact rv⟩ (fun i σ J _ q => SqL.of (q.1 _ _ hL)) (fun i x σ J J' hi q y => ?_) fun σ J q => ?_
    · obtain ⟨sm, u, o2, rfl, rr⟩ := q
      obtain ⟨rfl, ex⟩ := y
      rw [lu] at hi ex
      obtain ⟨c, hc⟩ : ∃ c, hs.length - i = c + 1 := ⟨hs.length - i - 1, by omega⟩
      have hcl : c < hs.length := by omega
      have et : hs[c]? = some hs[c] := List.getElem?_eq_getElem hcl
      have ed : hs.drop c = hs[c] :: hs.drop (c + 1) := List.drop_eq_getElem_cons hcl
      have hm := List.mem_of_getElem? et
      generalize hs[c] = hd at et ed hm
      rw [show hs.length - 1 - i = c by omega] at ex
      rw [hc] at rr
      obtain ⟨y, ey, ry⟩ := Reps.get (ru.mono (TupK.same sm)) (j := c) (d := .t (.s hd.1 :: hd.2)) (by rw [List.getElem?_map, et]; rfl)
      obtain rfl : y = x := by rw [ey] at ex; exact Option.some.inj ex
      obtain ⟨p, vs, rfl, hp, v0, rest, rfl, e0, rrest⟩ := ry
      cases (show v0 = _ from e0)
      have lr : rest.length ≤ 100 := by rw [Reps.len rrest]; exact h1 _ hm
      refine ⟨_, rfl, _, rfl, by show 1 ≤ sizeLine; decide, fun t1 ht1 => ?_⟩
      have q1 := Same.new (o := .tup [u]) ht1
      refine ⟨p, t1, _, _, rfl, rfl, SqT.of (q1 _ _ hp), SqT.of upd_same, (fun z => nomatch z), Nat.le_trans (by show rest.length + 1 + 1 ≤ 1000; omega) (by decide), (fun z => nomatch z), fun _ p3 hp3 => ?_⟩
      have q2 := Same.new (o := .tup ((V.str hd.1 :: rest) ++ [u])) hp3
      have q12 := q1.trans q2
      refine ⟨sm.trans q12, .ref p3, _, rfl, ?_⟩
      rw [show hs.length - (i + 1) = c by omega, ed]
      show Rep _ (PT.one hd.1 hd.2 (closeT (hs.drop (c + 1)) t)).d _
      exact ⟨p3, _, rfl, upd_same, Reps.cons rfl (Reps.append (rrest.mono (TupK.same q12)) (Reps.cons (rr.mono (TupK.same q12)) rfl))⟩
    · obtain ⟨sm, u, o2, rfl, rr⟩ := q
      rw [lu, Nat.sub_self, List.drop_zero] at rr
      exact ⟨_, rfl, k u J rr sm⟩
end
end Ak
namespace Ak
open PySem L2
local macro_rules | `(tactic| walk_at "no attr") => `(tactic| exact rwF_no _ _ _ (by decide +kernel) (by decide +kernel) (by decide +kernel))
/-! ### drawn words: all apart, all names -/
abbrev st_l_words : Stmt := top 12
theorem sc_l_words : FnScope ["_law_deal_here", "_law_many", "_law_letters", "_law_k", "_law_core", "_law_at", "_law_turn", "_law_found", "_law_own"] ["_law_deal_here", "_law_many"] (defScope st_l_words) := ⟨rfl, rfl, rfl, by decide +kernel, rfl, by decide +kernel, by decide +kernel⟩
structure BltB (mg : Str → Option Value) : Prop where
  len : mg "len" = none
  range : mg "range" = none
  int : mg "int" = none
  tuple : mg "tuple" = none
  list : mg "list" = none
  max : mg "max" = none
  enumerate : mg "enumerate" = none
  zip : mg "zip" = none
  reversed : mg "reversed" = none
  isinstance : mg "isinstance" = none
/-- a text, none or one time -/
theorem op_mul_str {X : Cx} : OpR X (binaryOp .Mult) (fun x y H Q => ∃ (z : Str) (i : Int), x = .str z ∧ y = .int i ∧ (i = 0 ∨ i = 1) ∧ Q (.str (if i = 1 then z else Str.empty)) H) := by
  intro pins s σ H x y v u Q I rx ry h
  obtain ⟨z, i, rfl, rfl, hi, q⟩ := h
  obtain ⟨t, rfl⟩ := rx
  obtain ⟨t', rfl⟩ := ry
  have e : Txt.mul z i = if i = 1 then z else Str.empty := by rcases hi with rfl | rfl <;> rfl
  refine SB.mul ⟨by rcases hi with rfl | rfl <;> decide, ?_, ?_⟩ fun t' k => by rw [e]; exact ⟨.str (if i = 1 then z else Str.empty), H, I.tok _, ⟨_, rfl⟩, q⟩
  · rcases hi with rfl | rfl
    · exact fun h => absurd (by decide) h
    · exact fun _ h => absurd h (by simp)
  · rcases hi with rfl | rfl
    · exact fun h => absurd (by decide) h
    · exact fun _ h => absurd h (by simp)
/-- only small letters -/
def Low (t : Str) : Prop := ∀ c ∈ t.cps.toList, 97 ≤ c ∧ c ≤ 122
theorem low_on {t : Str} (h : Low t) : onlyOf t lets = true := by
  unfold onlyOf
  rw [List.all_eq_true]
  exact fun c hc => decide_eq_true (mem_lets.mpr (h c hc))
theorem nn_qw : ∀ c ∈ ([113, 119, 120, 122] : List Nat), ∀ t ∈ NNs, c ∉ t.cps.toList := by decide +kernel
theorem name_low {t : Str} (h : Low t) (l1 : 1 ≤ t.length) (l8 : t.length ≤ 8) {c : Nat} (hc : c ∈ ([113, 119, 120, 122] : List Nat)) (ht : c ∈ t.cps.toList) : isName t = true := by
  have nn : inV (.str t) (NNs.map V.str) = false := by
    unfold inV
    rw [List.any_eq_false]
    intro v hv
    obtain ⟨u, hu, rfl⟩ := List.mem_map.mp hv
    show ¬ (_ == _) = true
    intro z
    have e : t = u ∨ u = t := by first | exact .inl (eq_of_beq z) | exact .inr (eq_of_beq z)
    rcases e with rfl | rfl <;> exact nn_qw _ hc _ hu ht
  unfold isName
  rw [low_on h, nn, decide_eq_true l1, decide_eq_true l8]
  rfl
theorem app_tl (a b : Str) : (a ++ b).cps.toList = a.cps.toList ++ b.cps.toList := by
  show (a.cps ++ b.cps).toList = _
  exact Array.toList_append
theorem low_app {a b : Str} (h : Low a) (g : Low b) : Low (a ++ b) := fun c hc => by
  rw [app_tl] at hc
  rcases List.mem_append.mp hc with z | z
  · exact h c z
  · exact g c z
theorem low_cut {a : Str} (lo hi : Option Int) (h : Low a) : Low (cutS a lo hi) := fun c hc => h c (by
  unfold cutS at hc
  exact List.mem_of_mem_drop (List.mem_of_mem_take (by simpa using hc)))
theorem low_join : ∀ {ys : List Str}, (∀ y ∈ ys, Low y) → Low (Str.join Str.empty ys)
  | [], _ => fun c hc => by simp [Str.join, Str.empty] at hc
  | [x], h => h x (by simp)
  | x :: y :: r, h => by
    show Low ((x ++ Str.empty) ++ Str.join Str.empty (y :: r))
    exact low_app (low_app (h x (by simp)) (fun c hc => by simp [Str.empty] at hc)) (low_join fun z hz => h z (List.mem_cons_of_mem _ hz))
theorem low_sign {c : Nat} (h : c ∈ lets.cps.toList) : Low (⟨#[c]⟩ : Str) := fun x hx => by
  have e : x = c := by simpa using hx
  rw [e]; exact mem_lets.mp h
theorem lets_len : lets.length = 26 := by decide +kernel
theorem cut_sum {z : Str} {a : Int} (h : 0 ≤ a) : (cutS z none (some a)).length + (cutS z (some a) none).length = z.length := by
  obtain ⟨n, rfl⟩ := Int.eq_ofNat_of_zero_le h
  have e : HT.sIx z.length 0 (some (n : Int)) = min n z.length := HT.sIx_nat _ _ _
  have e2 : HT.sIx z.length z.length (some (n : Int)) = min n z.length := HT.sIx_nat _ _ _
  show (cutS z none (some (n : Int))).cps.size + (cutS z (some (n : Int)) none).cps.size = z.length
  rw [← Array.length_toList, ← Array.length_toList]
  unfold cutS
  rw [e, e2, HT.sIx_none, HT.sIx_none]
  have hl : z.cps.toList.length = z.length := Array.length_toList
  simp only [List.length_take, List.length_drop, hl]
  omega
/-- the word of a number -/
def qwL : List Nat := [113, 119, 120, 122]
def wordL (A B : List Nat) (t i : Nat) : List Nat := A ++ ([97 + (t + i) % 26, qwL[i / 26]?.getD 0] ++ (B ++ if i % 2 = 1 then [122] else []))
def wordS (A B : List Nat) (t i : Nat) : Str := ⟨(wordL A B t i).toArray⟩
theorem qw_inj : ∀ i < 4, ∀ j < 4, qwL[i]?.getD 0 = qwL[j]?.getD 0 → i = j := by decide
theorem wordL_inj {A B : List Nat} {t i j : Nat} (hi : i < 104) (hj : j < 104) (h : wordL A B t i = wordL A B t j) : i = j := by
  unfold wordL at h
  have h := List.append_cancel_left h
  have l := congrArg List.length h
  have hp : i % 2 = 1 ↔ j % 2 = 1 := by
    by_cases a : i % 2 = 1 <;> by_cases b : j % 2 = 1 <;> simp [a, b] at l ⊢
  injection h with h1 h
  injection h with h2 h
  have := qw_inj (i / 26) (by omega) (j / 26) (by omega) h2
  omega
theorem wordS_inj {A B : List Nat} {t i j : Nat} (hi : i < 104) (hj : j < 104) (h : wordS A B t i = wordS A B t j) : i = j := by
  unfold wordS at h
  injection h with h
  exact wordL_inj hi hj (by simpa using congrArg Array.toList h)
theorem words_apart {A B : List Nat} {t n : Nat} (hn : n ≤ 104) : ((List.range n).map (wordS A B t)).Nodup := by
  unfold List.Nodup
  rw [List.pairwise_map]
  refine List.Pairwise.imp_of_mem (fun {a b} ha hb hab z => hab ?_) List.nodup_range
  exact wordS_inj (by have := List.mem_range.mp ha; omega) (by have := List.mem_range.mp hb; omega) z
theorem str_ext {a b : Str} (h : a.cps.toList = b.cps.toList) : a = b := by
  cases a; cases b
  congr 1
  exact Array.toList_inj.mp h
theorem lets_at : ∀ n < 26, lets.cps.toList[n]? = some (97 + n) := by decide +kernel
theorem qwxz_at : ∀ n < 4, ("qwxz" : Str).cps.toList[n]? = some (qwL[n]?.getD 0) := by decide +kernel
theorem qw_mem : ∀ n < 4, qwL[n]?.getD 0 ∈ ([113, 119, 120, 122] : List Nat) := by decide
def spWordsN : Sp := fun vs H Q _ => ∃ (d l : Addr) (n : Nat), vs = [.ref d, .int (n : Int)] ∧ n ≤ 104 ∧ DealAt H d l ∧ ∀ (p : Addr) (ws : List Str) (H' : Hp), H p = none → H' p = some (.lst (ws.map V.str)) → ws.length = n → (∀ x ∈ ws, isName x = true) → ws.Nodup → DealAt H' d l → Kp d l H H' → Q (.ref p) H'
section
variable {P : Program} {w : World} {K : PySem.W.Frag} {mg : Str → Option Value} {base : Heap}
theorem ok_l_words {f f1 : Addr} {fd d1 : FuncData} (D : Fn K mg "_law_words" st_l_words ["_law_deal_here", "_law_many"] f fd) (T : BltB mg) (D_l_draw : Fn K mg "_law_draw" st_l_draw ["_law_deal_here", "_law_many"] f1 d1) (G_l_draw : FnOk P w K mg base CX0 1 f1 d1 ["_law_deal_here", "_law_many"] spDraw) : FnOk P w K mg base CX0 2 f fd ["_law_deal_here", "_law_many"] spWordsN := by
  refine D.F.ok sc_l_words (fun vs H Q E h => ?_) (fun cdv A outer s H vs Q E hr h => ?_)
  · obtain ⟨d, l, n, rfl, _⟩ := h
    rfl
  · obtain ⟨d, l, n, rfl, hn, hD, k⟩ := h
    refine ⟨_, (pss_cons (ps_set (i := 2) sc_l_words.nd rfl (Or.inr rfl) pe_str)
      (pss_cons (ps_set (i := 4) sc_l_words.nd rfl (Or.inl rfl) (pe_join pe_str (pe_lc (own := [("_law_k", 3)]) (g := gName 3) (tt := tYes) rfl sc_l_words.nd (pi_range1 rfl T.range (pa_cons (pe_call G_l_draw (hr.mono (by decide)) rfl D_l_draw.mg D_l_draw.kp D_l_draw.b .nil pass0 (pa_cons (pv 0) (pa_cons pe_int pa_nil))) pa_nil)) (blkOk_by (own := [("_law_k", 3)]) (N := ["_law_deal_here", "_law_many", "_law_letters", "_law_k", "_law_core", "_law_at", "_law_turn", "_law_found", "_law_own"]) (sc := defScope st_l_words) (by decide +kernel)) (fun _ _ _ _ _ => (pg_name (i := 3) sc_l_words.nd rfl (Or.inl rfl))) (fun _ _ _ _ _ => pts_nil) (fun _ _ _ _ _ => (pe_ix ix_str (pv 2) (pe_call G_l_draw (hr.mono (by decide)) rfl D_l_draw.mg D_l_draw.kp D_l_draw.b .nil pass0 (pa_cons (pv 0) (pa_cons pe_int pa_nil))) (fun _ _ => rfl))))))
      (pss_cons (ps_par (i := 5) (j := 6) (by rfl) sc_l_words.nd rfl rfl (by decide) rfl rfl (pa_cons (pe_call G_l_draw (hr.mono (by decide)) rfl D_l_draw.mg D_l_draw.kp D_l_draw.b .nil pass0 (pa_cons (pv 0) (pa_cons (pe_op op_add (pe_callB call_len_str (by rfl) T.len (by decide +kernel) (pa_cons (pv 4) pa_nil)) pe_int) pa_nil))) (pa_cons (pe_call G_l_draw (hr.mono (by decide)) rfl D_l_draw.mg D_l_draw.kp D_l_draw.b .nil pass0 (pa_cons (pv 0) (pa_cons pe_int pa_nil))) pa_nil)) (by rfl))
      (pss_cons (ps_set (i := 7) sc_l_words.nd rfl (Or.inl rfl) (pe_lst pa_nil))
      (pss_cons (ps_for PassesOwn.never rfl (pi_range1 rfl T.range (pa_cons (pv 1) pa_nil)) (pg_name (i := 3) sc_l_words.nd rfl (Or.inl rfl)) (pss_cons (ps_set (i := 8) sc_l_words.nd rfl (Or.inl rfl) (pe_op op_add_str (pe_ix ix_str (pv 2) (pe_op op_modN (pe_op op_add (pv 6) (pv 3)) pe_int) (fun _ _ => rfl)) (pe_ix ix_str pe_str (pe_op op_fdivN (pv 3) pe_int) (fun _ _ => rfl))))
      (pss_one (ps_expr (pe_bm PySem.F.plainAttrs_list PySem.F.slot_list_append PySem.F.type_list_append mt_append (pv 7) (pa_cons (pe_op op_add_str (pe_op op_add_str (pe_op op_add_str (pe_slice sl_str (pv 4) po_none (po_some (pv 5))) (pv 8)) (pe_slice sl_str (pv 4) (po_some (pv 5)) po_none)) (pe_op op_mul_str pe_str (pe_op op_modN (pv 3) pe_int))) pa_nil))))))
      (pss_one (ps_ret (pv 7)))))))), ?_⟩
    refine ⟨⟨_, rfl⟩, _, rfl, d, l, 6, rfl, hD, by decide, by decide, fun m H2 m0 m1 D2 k2 => ?_⟩
    refine ⟨m, rfl, by omega, by omega, fun L hL => ?_⟩
    have nL := D2.new hL
    refine lc_range (lo := 0) (n := m.toNat) (fun i H' => DealAt H' d l ∧ Kp d l H H' ∧ ∃ ts : List Str, H' L = some (.lst (ts.map V.str)) ∧ ts.length = i ∧ ∀ t ∈ ts, t.length = 1 ∧ Low t) ⟨D2.same (Same.new hL), k2.trans (Kp.same (Same.new hL)), [], upd_same, rfl, fun _ z => nomatch z⟩ (fun i H' hi q => ?_) fun H' q => ?_
    · obtain ⟨q1, q2, ts, q3, q4, q5⟩ := q
      refine ⟨rfl, lc_yes ?_⟩
      refine ⟨_, rfl, _, rfl, d, l, 26, rfl, q1, by decide, by decide, fun r H3 r0 r1 D3 k3 => ?_⟩
      obtain ⟨cc, hcc, hin⟩ := atI_in (xs := lets.cps.toList) r0 (by have := lets_len; rw [Array.length_toList]; show r < ((lets.length : Nat) : Int); omega)
      have h3 := k3 _ _ q3 nL.1 nL.2
      refine ⟨lets, _, cc, rfl, rfl, by rw [lets_len]; decide, hcc, _, h3, small1000 (by simp; omega), D3.upd nL, ?_, ts ++ [⟨#[cc]⟩], by rw [upd_same, List.map_append]; rfl, by simp [q4], ?_⟩
      · exact Kp.mut k2 (q2.trans k3) hL
      · intro t ht
        rcases List.mem_append.mp ht with ht | ht
        · exact q5 t ht
        · rw [List.mem_singleton.mp ht]; exact ⟨rfl, low_sign hin⟩
    · obtain ⟨q1, q2, ts, q3, q4, q5⟩ := q
      have es : (ts.map (·.length)).sum = ts.length := sum_ones fun y hy => (q5 y hy).1
      have jl : (Str.join Str.empty ts).length = ts.length := (join_len ts).trans es
      refine ⟨Str.empty, L, ts, rfl, rfl, .inl (SqL.of q3), by rw [es]; show ts.length + ts.length * 0 ≤ _; omega, ?_⟩
      rw [TL.join_eq]
      have cl : (Str.join Str.empty ts).length ≤ 5 := by rw [jl, q4]; omega
      have clow : Low (Str.join Str.empty ts) := low_join fun y hy => (q5 y hy).2
      generalize Str.join Str.empty ts = core at cl clow ⊢
      refine ⟨_, rfl, _, rfl, core, rfl, sz1000 (by omega), _, _, rfl, rfl, d, l, _, rfl, q1, by omega, by omega, fun at_ H4 a0 a1 D4 k4 => ?_⟩
      refine ⟨_, rfl, d, l, 26, rfl, D4, by decide, by decide, fun turn H5 u0 u1 D5 k5 => ⟨_, _, rfl, ?_⟩⟩
      refine ⟨Nat.zero_le _, fun F hF => ?_⟩
      have nF := D5.new hF
      have kp5 : Kp d l H H5 := q2.trans (k4.trans k5)
      have hF0 : H F = none := by
        cases e : H F with
        | none => rfl
        | some o =>
          have := kp5 F o e nF.1 nF.2
          rw [hF] at this; cases this
      have hl1 : Low (cutS core none (some at_)) := low_cut none (some at_) clow
      have hl2 : Low (cutS core (some at_) none) := low_cut (some at_) none clow
      have hl3 := cut_sum (z := core) a0
      generalize hA : (cutS core none (some at_)).cps.toList = A
      generalize hB : (cutS core (some at_) none).cps.toList = B
      obtain ⟨t, rfl⟩ := Int.eq_ofNat_of_zero_le u0
      refine ⟨_, rfl, (n : Int), rfl, by omega, by omega, for_range (lo := 0) (n := (n : Int).toNat) (fun i σ H' => DealAt H' d l ∧ Kp d l H H' ∧ ∃ (v3 v8 : Option V), σ = [some (.ref d), some (.int (n : Int)), some (.str lets), v3, some (.str core), some (.int at_), some (.int (t : Int)), some (.ref F), v8] ∧ H' F = some (.lst (((List.range i).map (wordS A B t)).map V.str)) ∧ ∀ x ∈ (List.range i).map (wordS A B t), isName x = true)
        ⟨D5.same (Same.new hF), kp5.trans (Kp.same (Same.new hF)), _, _, rfl, upd_same, fun _ z => nomatch z⟩ (fun i σ H' hi q => ?_) fun σ H' q => ?_⟩
      · obtain ⟨q1, q2, v3, v8, rfl, q3, q5⟩ := q
        have hin : i < n := by rw [Int.toNat_natCast] at hi; exact hi
        have e1 : ((t : Int) + (0 + (i : Int))).fmod 26 = (((t + i) % 26 : Nat) : Int) := by
          rw [Int.fmod_eq_emod_of_nonneg _ (by decide)]; omega
        have e2 : (0 + (i : Int)).fdiv 26 = ((i / 26 : Nat) : Int) := by
          rw [Int.fdiv_eq_ediv_of_nonneg _ (by decide)]; omega
        have e3 : (0 + (i : Int)).fmod 2 = ((i % 2 : Nat) : Int) := by
          rw [Int.fmod_eq_emod_of_nonneg _ (by decide)]; omega
        have hcc := lets_at ((t + i) % 26) (by omega)
        have hqq := qwxz_at (i / 26) (by omega)
        have hqm := qw_mem (i / 26) (by omega)
        refine ⟨_, rfl, _, rfl, _, rfl, _, _, rfl, rfl, _, _, rfl, rfl, (by show (26 : Int) ≠ 0; decide), lets, _, 97 + (t + i) % 26, rfl, rfl, by rw [lets_len]; decide, by rw [e1]; exact atI_nat hcc, ?_⟩
        refine ⟨_, rfl, _, _, rfl, rfl, ⟨by decide, by decide⟩, "qwxz", _, _, rfl, rfl, by decide +kernel, by rw [e2]; exact atI_nat hqq, _, _, rfl, rfl, by show 1 + 1 ≤ sizeLine; decide, ?_⟩
        refine ⟨_, rfl, .inl ⟨rfl, _, SqL.of q3⟩, ?_⟩
        refine ⟨_, rfl, _, rfl, at_, rfl, core, rfl, sz1000 (by omega), ?_⟩
        have cut1 := cutS_le core none (some at_)
        have cut2 := cutS_le core (some at_) none
        refine ⟨_, rfl, _, _, rfl, rfl, sz1000 (by show _ + 2 ≤ 1000; omega), ?_⟩
        refine ⟨_, rfl, _, rfl, at_, rfl, core, rfl, sz1000 (by omega), _, _, rfl, rfl, sz1000 (by rw [add_len]; show _ + 2 + _ ≤ 1000; omega), ?_⟩
        have hm : (0 + (i : Int)).fmod 2 = 0 ∨ (0 + (i : Int)).fmod 2 = 1 := by omega
        have lz : (if (0 + (i : Int)).fmod 2 = 1 then ("z" : Str) else Str.empty).cps.toList = if i % 2 = 1 then [122] else [] := by
          by_cases c : i % 2 = 1
          · rw [if_pos c, if_pos (by omega)]; decide +kernel
          · rw [if_neg c, if_neg (by omega)]; rfl
        have lz2 : (if (0 + (i : Int)).fmod 2 = 1 then ("z" : Str) else Str.empty).length ≤ 1 := by
          split
          · decide +kernel
          · decide
        refine ⟨_, rfl, _, _, rfl, rfl, (by show (2 : Int) ≠ 0; decide), _, _, rfl, rfl, hm, _, _, rfl, rfl, ?_, ?_⟩
        · rw [add_len, add_len]
          exact sz1000 (by show _ + 2 + _ + _ ≤ 1000; omega)
        · generalize (if (0 + (i : Int)).fmod 2 = 1 then ("z" : Str) else Str.empty) = zz at lz lz2
          have ew : (cutS core none (some at_) ++ (⟨#[97 + (t + i) % 26]⟩ ++ ⟨#[qwL[i / 26]?.getD 0]⟩ : Str) ++ cutS core (some at_) none ++ zz) = wordS A B t i := str_ext (by
            rw [app_tl, app_tl, app_tl, app_tl, hA, hB, lz]
            simp [wordS, wordL])
          have nm : isName (wordS A B t i) = true := by
            rw [← ew]
            have o2 : (⟨#[97 + (t + i) % 26]⟩ ++ ⟨#[qwL[i / 26]?.getD 0]⟩ : Str).length = 2 := rfl
            have lown : Low (⟨#[97 + (t + i) % 26]⟩ ++ ⟨#[qwL[i / 26]?.getD 0]⟩ : Str) := low_app (fun x hx => by
              have e : x = 97 + (t + i) % 26 := by simpa using hx
              omega) fun x hx => by
              have e : x = qwL[i / 26]?.getD 0 := by simpa using hx
              rw [← e] at hqm
              have : x = 113 ∨ x = 119 ∨ x = 120 ∨ x = 122 := by simpa using hqm
              omega
            have lowz : Low zz := fun x hx => by
              rw [lz] at hx
              split at hx
              · have e : x = 122 := by simpa using hx
                omega
              · cases hx
            refine name_low (low_app (low_app (low_app hl1 lown) hl2) lowz) ?_ ?_ hqm ?_
            · rw [add_len, add_len, add_len, o2]; omega
            · rw [add_len, add_len, add_len, o2]; omega
            · rw [app_tl, app_tl, app_tl]
              exact List.mem_append_left _ (List.mem_append_left _ (List.mem_append_right _ (by show _ ∈ [_, _]; simp)))
          refine ⟨F, _, _, rfl, rfl, q3, small1000 (by rw [List.length_map, List.length_map, List.length_range]; omega), q1.upd nF, ?_, _, _, rfl, ?_, fun x hx => ?_⟩
          · exact Kp.mut kp5 q2 hF
          · rw [upd_same, List.range_succ, List.map_append, List.map_append]
            show some (HO.lst (_ ++ [V.str _])) = some (HO.lst (_ ++ [V.str (wordS A B t i)]))
            rw [← ew]
          · rw [List.range_succ, List.map_append] at hx
            rcases List.mem_append.mp hx with hx | hx
            · exact q5 x hx
            · rw [List.mem_singleton.mp hx]; exact nm
      · obtain ⟨q1, q2, v3, v8, rfl, q3, q5⟩ := q
        rw [Int.toNat_natCast] at q3 q5
        exact ⟨_, rfl, k F _ _ hF0 q3 (by simp) q5 (words_apart hn) q1 q2⟩
end
end Ak
namespace Ak
open PySem L2
local macro_rules | `(tactic| walk_at "no attr") => `(tactic| exact rwF_no _ _ _ (by decide +kernel) (by decide +kernel) (by decide +kernel))
/-! ### a built program's world, its kinds, what is well built -/
def Kd.same : (a b : Kd) → Decidable (a = b)
  | .num, .num => isTrue rfl
  | .nums, .nums => isTrue rfl
  | .hold a b, .hold c d => if h : a = c ∧ b = d then isTrue (by rw [h.1, h.2]) else isFalse fun e => h (by injection e with e1 e2; exact ⟨e1, e2⟩)
  | .holds a b, .holds c d => if h : a = c ∧ b = d then isTrue (by rw [h.1, h.2]) else isFalse fun e => h (by injection e with e1 e2; exact ⟨e1, e2⟩)
  | .num, .nums => isFalse fun e => nomatch e
  | .num, .hold _ _ => isFalse fun e => nomatch e
  | .num, .holds _ _ => isFalse fun e => nomatch e
  | .nums, .num => isFalse fun e => nomatch e
  | .nums, .hold _ _ => isFalse fun e => nomatch e
  | .nums, .holds _ _ => isFalse fun e => nomatch e
  | .hold _ _, .num => isFalse fun e => nomatch e
  | .hold _ _, .nums => isFalse fun e => nomatch e
  | .hold _ _, .holds _ _ => isFalse fun e => nomatch e
  | .holds _ _, .num => isFalse fun e => nomatch e
  | .holds _ _, .nums => isFalse fun e => nomatch e
  | .holds _ _, .hold _ _ => isFalse fun e => nomatch e
instance : DecidableEq Kd := Kd.same
def Kd.thing : Kd → Kd | .nums => .num | .holds k q => .hold k q | κ => κ
def Kd.rowOf : Kd → Kd | .hold k q => .holds k q | _ => .nums
def Kd.plain : Kd → Prop | .num => True | .nums => True | _ => False
structure AW where
  nm : Str
  (of gives : Kd)
structure KW where
  nm : Str
  (note takes gives : Kd)
  heard : List Str
structure FW where
  nm : Str
  kinds : List Kd
  kind : Kd
structure WW where
  words : List Str
  as : List AW
  ks : List KW
  fs : List FW
def WW.pair (W : WW) (k q : Str) : Prop := ∃ kw ∈ W.ks, kw.nm = k ∧ q ∈ kw.heard
def WW.good (W : WW) : Kd → Prop | .num => True | .nums => True | .hold k q => W.pair k q | .holds k q => W.pair k q
structure WW.Ok (W : WW) : Prop where
  wl : W.words.length = 96
  wn : W.words.Nodup
  wi : ∀ x ∈ W.words, isName x = true
  al : 1 ≤ W.as.length ∧ W.as.length ≤ 6
  an : (W.as.map (·.nm)).Nodup
  ai : ∀ a ∈ W.as, isName a.nm = true
  ap : ∀ a ∈ W.as, a.of.plain ∧ a.gives.plain
  kl : 1 ≤ W.ks.length ∧ W.ks.length ≤ 2
  kn : (W.ks.map (·.nm)).Nodup
  ki : ∀ k ∈ W.ks, isName k.nm = true
  kp : ∀ k ∈ W.ks, (k.note.plain ∨ ∃ q ∈ k.heard, k.note = .holds k.nm q) ∧ k.takes.plain ∧ k.gives.plain
  kh : ∀ k ∈ W.ks, k.heard.length ≤ 6 ∧ k.heard.Nodup ∧ ∀ q ∈ k.heard, ∃ a ∈ W.as, a.nm = q
  fl : 2 ≤ W.fs.length ∧ W.fs.length ≤ 4
  fn : (W.fs.map (·.nm)).Nodup
  fi : ∀ f ∈ W.fs, isName f.nm = true
  fk : ∀ f ∈ W.fs, f.kinds.length ≤ 4 ∧ (∀ κ ∈ f.kinds, W.good κ) ∧ f.kind.plain
  f0 : ∀ f, W.fs[0]? = some f → f.kinds = []
def WW.nm (W : WW) (i : Nat) : Str := (W.words[14 + i]?).getD Str.empty
def WW.envD (W : WW) (g : List Kd) : List D := g.mapIdx fun i κ => .t [.s (W.nm i), κ.d]
theorem plain_good {W : WW} {κ : Kd} (h : κ.plain) : W.good κ := by cases κ <;> first | trivial | exact h.elim
theorem WW.Ok.note {W : WW} (ok : W.Ok) {k : KW} (hk : k ∈ W.ks) : W.good k.note := by
  rcases (ok.kp k hk).1 with h | ⟨q, hq, e⟩
  · exact plain_good h
  · rw [e]; exact ⟨k, hk, rfl, hq⟩
theorem nm_at {W : WW} (ok : W.Ok) {i : Nat} (h : i < 82) : W.words[14 + i]? = some (W.nm i) := by
  unfold WW.nm
  rw [List.getElem?_eq_getElem (by rw [ok.wl]; omega)]; rfl
theorem nm_name {W : WW} (ok : W.Ok) {i : Nat} (h : i < 82) : isName (W.nm i) = true := ok.wi _ (List.mem_of_getElem? (nm_at ok h))
theorem nm_inj {W : WW} (ok : W.Ok) {i j : Nat} (hi : i < 82) (hj : j < 82) (h : W.nm i = W.nm j) : i = j := by
  have a := nm_at ok hi
  have b := nm_at ok hj
  rw [h] at a
  have := (List.getElem?_inj (i := 14 + i) (j := 14 + j) (by rw [ok.wl]; omega) ok.wn).mp (a.trans b.symm)
  omega
theorem envD_snoc (W : WW) (g : List Kd) (κ : Kd) : W.envD (g ++ [κ]) = W.envD g ++ [.t [.s (W.nm g.length), κ.d]] := by
  unfold WW.envD
  rw [List.mapIdx_append]; simp
theorem envD_get (W : WW) (g : List Kd) (i : Nat) : (W.envD g)[i]? = (g[i]?).map fun κ => .t [.s (W.nm i), κ.d] := by
  unfold WW.envD
  rw [List.getElem?_mapIdx]
theorem envD_len (W : WW) (g : List Kd) : (W.envD g).length = g.length := by
  unfold WW.envD; rw [List.length_mapIdx]

/-! ### what is of which kind -/
def AtTy (W : WW) (g : List Kd) (κ : Kd) (a : Atom) : Prop := (∃ i : Nat, g[i]? = some κ ∧ a = .nm (W.nm i)) ∨ (κ = .num ∧ ∃ n : Int, a = .nu n ∧ 0 ≤ n ∧ n ≤ 999999999)
theorem AtTy.mono {W : WW} {g : List Kd} {κ : Kd} {a : Atom} (h : AtTy W g κ a) (x : List Kd) : AtTy W (g ++ x) κ a := by
  rcases h with ⟨i, e, h⟩ | h
  · exact .inl ⟨i, by rw [List.getElem?_append_left (List.getElem?_eq_some_iff.mp e).1]; exact e, h⟩
  · exact .inr h
theorem AtTy.mem {W : WW} {g : List Kd} {κ : Kd} {a : Atom} (h : AtTy W g κ a) (n : κ ≠ .num) : κ ∈ g := by
  rcases h with ⟨i, e, _⟩ | h
  · exact List.mem_of_getElem? e
  · exact absurd h.1 n
def MTy (W : WW) (g : List Kd) (κ : Kd) : Made → Prop
  | .same a => AtTy W g κ a
  | .sum s a b => κ = .num ∧ s ∈ signs ∧ AtTy W g .num a ∧ AtTy W g .num b
  | .empty k => κ = k ∧ k.row ∧ W.good k
  | .put a r => κ.row ∧ AtTy W g κ.thing a ∧ AtTy W g κ r
  | .last r a => κ.row ∧ AtTy W g κ r ∧ AtTy W g κ.thing a
  | .call f args => ∃ fw ∈ W.fs, fw.nm = f ∧ κ = fw.kind ∧ Paired (AtTy W g) fw.kinds args
  | .ask q a => ∃ aw ∈ W.as, aw.nm = q ∧ κ = aw.gives ∧ AtTy W g aw.of a
  | .keep k a f args => ∃ kw ∈ W.ks, ∃ fw ∈ W.fs, kw.nm = k ∧ fw.nm = f ∧ κ = kw.gives ∧ kw.takes = fw.kind ∧ AtTy W g kw.note a ∧ Paired (AtTy W g) fw.kinds args
  | .go h a n => ∃ kw ∈ W.ks, ∃ aw ∈ W.as, κ = kw.gives ∧ aw.nm ∈ kw.heard ∧ AtTy W g (.hold kw.nm aw.nm) h ∧ AtTy W g aw.gives a ∧ AtTy W g kw.note n
def BTy (W : WW) : List Kd → Kd → Body → Prop
  | g, due, .give a => AtTy W g due a
  | g, due, .tell a b => AtTy W g .num a ∧ BTy W g due b
  | g, due, .ite a b c => AtTy W g .num a ∧ BTy W g due b ∧ BTy W g due c
  | g, due, .case r b x y c => ∃ κ, κ.row ∧ W.good κ ∧ AtTy W g κ r ∧ BTy W g due b ∧ x = W.nm g.length ∧ y = W.nm (g.length + 1) ∧ BTy W (g ++ [κ.thing, κ]) due c
  | g, due, .bind x m b => ∃ κ, W.good κ ∧ MTy W g κ m ∧ x = W.nm g.length ∧ BTy W (g ++ [κ]) due b
/-! ### heads -/
inductive Hd where
  | tell (a : Atom) | bind (x : Str) (m : Made)
def Hd.on : Hd → Body → Body | .tell a, b => .tell a b | .bind x m, b => .bind x m b
def closeB (hs : List Hd) (b : Body) : Body := hs.foldr Hd.on b
def HTy (W : WW) : List Kd → List Hd → List Kd → Prop
  | g, [], g' => g' = g
  | g, .tell a :: r, g' => AtTy W g .num a ∧ HTy W g r g'
  | g, .bind x m :: r, g' => ∃ κ, W.good κ ∧ MTy W g κ m ∧ x = W.nm g.length ∧ HTy W (g ++ [κ]) r g'
theorem HTy.app {W : WW} : ∀ {g : List Kd} {a b : List Hd} {g1 g2 : List Kd}, HTy W g a g1 → HTy W g1 b g2 → HTy W g (a ++ b) g2
  | g, [], b, g1, g2, h1, h2 => by
    have e : g1 = g := h1
    rw [e] at h2; exact h2
  | g, .tell x :: r, b, g1, g2, h1, h2 => ⟨h1.1, HTy.app h1.2 h2⟩
  | g, .bind x m :: r, b, g1, g2, ⟨κ, k1, k2, k3, k4⟩, h2 => ⟨κ, k1, k2, k3, HTy.app k4 h2⟩
theorem HTy.ext {W : WW} : ∀ {g : List Kd} {a : List Hd} {g1 : List Kd}, HTy W g a g1 → ∃ x, g1 = g ++ x ∧ ∀ κ ∈ x, W.good κ
  | g, [], g1, h => ⟨[], by rw [List.append_nil]; exact h, fun _ z => nomatch z⟩
  | g, .tell x :: r, g1, h => HTy.ext h.2
  | g, .bind x m :: r, g1, ⟨κ, k1, k2, k3, k4⟩ => by
    obtain ⟨x, e, hx⟩ := HTy.ext k4
    refine ⟨κ :: x, by rw [e, List.append_assoc]; rfl, fun y hy => ?_⟩
    rcases List.mem_cons.mp hy with rfl | hy
    · exact k1
    · exact hx y hy
theorem HTy.close {W : WW} {due : Kd} {b : Body} : ∀ {g : List Kd} {a : List Hd} {g1 : List Kd}, HTy W g a g1 → BTy W g1 due b → BTy W g due (closeB a b)
  | g, [], g1, h, hb => by
    have e : g1 = g := h
    rw [e] at hb; exact hb
  | g, .tell x :: r, g1, h, hb => ⟨h.1, HTy.close h.2 hb⟩
  | g, .bind x m :: r, g1, ⟨κ, k1, k2, k3, k4⟩, hb => ⟨κ, k1, k2, k3, HTy.close k4 hb⟩
def Made.tag : Made → Str
  | .same _ => "let" | .sum _ _ _ => "sum" | .empty _ => "empty" | .put _ _ => "put" | .last _ _ => "last" | .call _ _ => "call" | .ask _ _ => "ask" | .keep _ _ _ _ => "keep" | .go _ _ _ => "go"
def Made.rest (x : Str) (m : Made) : List D := (m.hd x).drop 1
theorem Made.hd_eq (x : Str) (m : Made) : m.hd x = .s m.tag :: m.rest x := by cases m <;> rfl
def Hd.tag : Hd → Str | .tell _ => "tell" | .bind _ m => m.tag
def Hd.rest : Hd → List D | .tell a => [a.d] | .bind x m => m.rest x
def Hd.d (h : Hd) : D := .t (.s h.tag :: h.rest)
theorem tags_not : ∀ w ∈ (["let", "sum", "empty", "put", "last", "call", "ask", "keep", "go", "tell"] : List Str), w ≠ "give" ∧ w ≠ "if" ∧ w ≠ "case" := by decide +kernel
theorem Made.tag_not (m : Made) : m.tag ≠ "give" ∧ m.tag ≠ "if" ∧ m.tag ≠ "case" := tags_not _ (by cases m <;> simp [Made.tag])
theorem Hd.rest_len (h : Hd) : h.rest.length ≤ 100 := by
  cases h with
  | tell a => show 1 ≤ 100; decide
  | bind x m => cases m <;> (show _ ≤ _; simp [Hd.rest, Made.rest, Made.hd])
/-! ### as trees of pieces -/
def Body.pt : Body → PT
  | .give a => .give [a.d]
  | .tell a b => .one "tell" [a.d] b.pt
  | .ite a b c => .ifs a.d b.pt c.pt
  | .case r b x y c => .cas r.d b.pt (.s x) (.s y) c.pt
  | .bind x m b => .one m.tag (m.rest x) b.pt
theorem Body.pt_d : ∀ b : Body, b.pt.d = b.d
  | .give a => rfl
  | .tell a b => by show D.t (.s "tell" :: ([a.d] ++ [b.pt.d])) = _; rw [Body.pt_d b]; rfl
  | .ite a b c => by show D.t [.s "if", a.d, b.pt.d, c.pt.d] = _; rw [Body.pt_d b, Body.pt_d c]; rfl
  | .case r b x y c => by show D.t [.s "case", r.d, b.pt.d, .s x, .s y, c.pt.d] = _; rw [Body.pt_d b, Body.pt_d c]; rfl
  | .bind x m b => by
    show D.t (.s m.tag :: (m.rest x ++ [b.pt.d])) = D.t (m.hd x ++ [b.d])
    rw [Body.pt_d b, m.hd_eq]; rfl
theorem Body.pt_ok : ∀ b : Body, b.pt.Ok
  | .give a => trivial
  | .tell a b => ⟨tags_not _ (by decide +kernel), Body.pt_ok b⟩
  | .ite a b c => ⟨Body.pt_ok b, Body.pt_ok c⟩
  | .case r b x y c => ⟨Body.pt_ok b, Body.pt_ok c⟩
  | .bind x m b => ⟨m.tag_not, Body.pt_ok b⟩
theorem Body.pt_size : ∀ b : Body, b.pt.all.length = b.size
  | .give a => rfl
  | .tell a b => by show (PT.one _ _ _ :: b.pt.all).length = _; rw [List.length_cons, Body.pt_size b]; rfl
  | .ite a b c => by show (PT.ifs _ _ _ :: (b.pt.all ++ c.pt.all)).length = _; rw [List.length_cons, List.length_append, Body.pt_size b, Body.pt_size c]; rfl
  | .case r b x y c => by show (PT.cas _ _ _ _ _ :: (b.pt.all ++ c.pt.all)).length = _; rw [List.length_cons, List.length_append, Body.pt_size b, Body.pt_size c]; rfl
  | .bind x m b => by show (PT.one _ _ _ :: b.pt.all).length = _; rw [List.length_cons, Body.pt_size b]; rfl
def Body.dep : Body → Nat
  | .give _ => 1
  | .tell _ b => b.dep + 1
  | .ite _ b c => max b.dep c.dep + 1
  | .case _ b _ _ c => max b.dep c.dep + 1
  | .bind _ _ b => b.dep + 1
theorem Body.pt_dep : ∀ b : Body, b.pt.dep = b.dep
  | .give a => rfl
  | .tell a b => by show b.pt.dep + 1 = _; rw [Body.pt_dep b]; rfl
  | .ite a b c => by show max b.pt.dep c.pt.dep + 1 = _; rw [Body.pt_dep b, Body.pt_dep c]; rfl
  | .case r b x y c => by show max b.pt.dep c.pt.dep + 1 = _; rw [Body.pt_dep b, Body.pt_dep c]; rfl
  | .bind x m b => by show b.pt.dep + 1 = _; rw [Body.pt_dep b]; rfl
theorem close_dep (b : Body) : ∀ hs : List Hd, (closeB hs b).dep = hs.length + b.dep
  | [] => (Nat.zero_add _).symm
  | .tell a :: r => by show (closeB r b).dep + 1 = _; rw [close_dep b r, List.length_cons]; omega
  | .bind x m :: r => by show (closeB r b).dep + 1 = _; rw [close_dep b r, List.length_cons]; omega
theorem close_size (b : Body) : ∀ hs : List Hd, (closeB hs b).size = hs.length + b.size
  | [] => (Nat.zero_add _).symm
  | .tell a :: r => by show (closeB r b).size + 1 = _; rw [close_size b r, List.length_cons]; omega
  | .bind x m :: r => by show (closeB r b).size + 1 = _; rw [close_size b r, List.length_cons]; omega
theorem close_pt (b : Body) : ∀ hs : List Hd, (closeB hs b).pt = closeT (hs.map fun h => (h.tag, h.rest)) b.pt
  | [] => rfl
  | .tell a :: r => by
    show PT.one "tell" [a.d] (closeB r b).pt = _
    rw [close_pt b r]; rfl
  | .bind x m :: r => by
    show PT.one m.tag (m.rest x) (closeB r b).pt = _
    rw [close_pt b r]; rfl
/-! ### how many rows can be new -/
def WW.rows (W : WW) : List Kd := .nums :: W.ks.flatMap fun k => k.heard.map (Kd.holds k.nm)
def lackL (g : List Kd) (l : List Kd) : Nat := l.countP fun κ => decide (κ ∉ g)
def WW.lack (W : WW) (g : List Kd) : Nat := lackL g W.rows
theorem lackL_app (g x : List Kd) : ∀ l, lackL (g ++ x) l ≤ lackL g l
  | [] => Nat.le_refl _
  | κ :: r => by
    have ih := lackL_app g x r
    unfold lackL at ih ⊢
    rw [List.countP_cons, List.countP_cons]
    have : (if decide (κ ∉ g ++ x) = true then 1 else 0) ≤ (if decide (κ ∉ g) = true then 1 else 0) := by
      by_cases h : κ ∈ g
      · rw [if_neg (by simp [h])]; exact Nat.zero_le _
      · rw [if_pos (c := decide (κ ∉ g) = true) (by simpa using h)]
        split <;> omega
    omega
theorem lackL_new {g : List Kd} {κ : Kd} (n : κ ∉ g) : ∀ {l : List Kd}, κ ∈ l → lackL (g ++ [κ]) l + 1 ≤ lackL g l
  | y :: r, h => by
    by_cases e : y = κ
    · have ih := lackL_app g [κ] r
      unfold lackL at ih ⊢
      rw [List.countP_cons, List.countP_cons, e]
      rw [if_neg (by simp), if_pos (by simpa using n)]
      omega
    · have hr : κ ∈ r := by
        rcases List.mem_cons.mp h with h | h
        · exact absurd h.symm e
        · exact h
      have ih := lackL_new n hr
      unfold lackL at ih ⊢
      rw [List.countP_cons, List.countP_cons]
      have : (y ∉ g ++ [κ]) ↔ y ∉ g := by simp [e]
      rw [show decide (y ∉ g ++ [κ]) = decide (y ∉ g) from decide_eq_decide.mpr this]
      omega
theorem lack_app (W : WW) (g x : List Kd) : W.lack (g ++ x) ≤ W.lack g := lackL_app _ _ _
theorem row_in {W : WW} {κ : Kd} (r : κ.row) (h : W.good κ) : κ ∈ W.rows := by
  cases κ with
  | num => exact r.elim
  | hold k q => exact r.elim
  | nums => exact List.mem_cons_self ..
  | holds k q =>
    obtain ⟨kw, hk, rfl, hq⟩ := h
    exact List.mem_cons_of_mem _ (List.mem_flatMap.mpr ⟨kw, hk, List.mem_map.mpr ⟨q, hq, rfl⟩⟩)
theorem lack_new {W : WW} {g : List Kd} {κ : Kd} (n : κ ∉ g) (r : κ.row) (h : W.good κ) : W.lack (g ++ [κ]) + 1 ≤ W.lack g := lackL_new n (row_in r h)
theorem lack_le {W : WW} (ok : W.Ok) (g : List Kd) : W.lack g ≤ 13 := by
  have h1 : W.lack g ≤ W.rows.length := List.countP_le_length
  have h2 : ∀ l : List KW, (∀ k ∈ l, k.heard.length ≤ 6) → (l.flatMap fun k => k.heard.map (Kd.holds k.nm)).length ≤ 6 * l.length := by
    intro l hl
    induction l with
    | nil => exact Nat.le_refl _
    | cons k r ih =>
      rw [List.flatMap_cons, List.length_append, List.length_map, List.length_cons]
      have := hl k (by simp)
      have := ih fun x hx => hl x (by simp [hx])
      omega
  have h3 := h2 W.ks fun k hk => (ok.kh k hk).1
  have h4 := ok.kl.2
  have : W.rows.length ≤ 13 := by
    show (_ :: _).length ≤ 13
    rw [List.length_cons]; omega
  omega
end Ak
namespace Ak
open PySem L2
local macro_rules | `(tactic| walk_at "no attr") => `(tactic| exact rwF_no _ _ _ (by decide +kernel) (by decide +kernel) (by decide +kernel))
/-! ### the world on the heap; what a builder's step does -/
abbrev st_l_bound : Stmt := top 14
theorem sc_l_bound : FnScope ["_law_world", "_law_env", "_law_kind", "_law_name"] ["_law_world", "_law_env", "_law_kind"] (defScope st_l_bound) := ⟨rfl, rfl, rfl, by decide +kernel, rfl, by decide +kernel, by decide +kernel⟩
def AW.d (a : AW) : D := .t [.s a.nm, a.of.d, a.gives.d]
def KwAt (H : Hp) (k : KW) (v : V) : Prop := ∃ (p h : Addr) (va vb vc : V), v = .ref p ∧ H p = some (.tup [.str k.nm, va, vb, vc, .ref h]) ∧ Rep H k.note.d va ∧ Rep H k.takes.d vb ∧ Rep H k.gives.d vc ∧ H h = some (.lst (k.heard.map V.str))
def FwAt (H : Hp) (f : FW) (v : V) : Prop := ∃ (p h : Addr) (vk : V) (us : List V), v = .ref p ∧ H p = some (.tup [.str f.nm, .ref h, vk]) ∧ H h = some (.lst us) ∧ Reps H (f.kinds.map Kd.d) us ∧ Rep H f.kind.d vk
theorem KwAt.same {H H' : Hp} {k : KW} {v : V} (s : Same H H') (h : KwAt H k v) : KwAt H' k v := by
  obtain ⟨p, h, va, vb, vc, e, h1, h2, h3, h4, h5⟩ := h
  exact ⟨p, h, va, vb, vc, e, s _ _ h1, h2.mono (TupK.same s), h3.mono (TupK.same s), h4.mono (TupK.same s), s _ _ h5⟩
theorem FwAt.same {H H' : Hp} {k : FW} {v : V} (s : Same H H') (h : FwAt H k v) : FwAt H' k v := by
  obtain ⟨p, h, vk, us, e, h1, h2, h3, h4⟩ := h
  exact ⟨p, h, vk, us, e, s _ _ h1, s _ _ h2, h3.mono (TupK.same s), h4.mono (TupK.same s)⟩
def wL (a b c d : Addr) : List (Key × V) := [(Sum.inr ("words" : Str), .ref a), (Sum.inr ("asks" : Str), .ref b), (Sum.inr ("keepers" : Str), .ref c), (Sum.inr ("functions" : Str), .ref d)]
def WAt (F : Hp) (w : Addr) (W : WW) : Prop := ∃ (pw pa pk pf : Addr) (ua uk uf : List V), F w = some (.dK (wL pw pa pk pf)) ∧ F pw = some (.lst (W.words.map V.str)) ∧ F pa = some (.lst ua) ∧ F pk = some (.lst uk) ∧ F pf = some (.lst uf) ∧ Reps F (W.as.map AW.d) ua ∧ Paired (KwAt F) W.ks uk ∧ Paired (FwAt F) W.fs uf
theorem WAt.same {F H : Hp} {w : Addr} {W : WW} (s : Same F H) (h : WAt F w W) : WAt H w W := by
  obtain ⟨pw, pa, pk, pf, ua, uk, uf, h1, h2, h3, h4, h5, h6, h7, h8⟩ := h
  exact ⟨pw, pa, pk, pf, ua, uk, uf, s _ _ h1, s _ _ h2, s _ _ h3, s _ _ h4, s _ _ h5, h6.mono (TupK.same s), paired_mono (fun _ _ z => z.same s) h7, paired_mono (fun _ _ z => z.same s) h8⟩
theorem kWA : ¬ ((Sum.inr ("words" : Str) : Key) = Sum.inr ("asks" : Str)) := by decide +kernel
theorem kWK : ¬ ((Sum.inr ("words" : Str) : Key) = Sum.inr ("keepers" : Str)) := by decide +kernel
theorem kWF : ¬ ((Sum.inr ("words" : Str) : Key) = Sum.inr ("functions" : Str)) := by decide +kernel
theorem kAK : ¬ ((Sum.inr ("asks" : Str) : Key) = Sum.inr ("keepers" : Str)) := by decide +kernel
theorem kAF : ¬ ((Sum.inr ("asks" : Str) : Key) = Sum.inr ("functions" : Str)) := by decide +kernel
theorem kKF : ¬ ((Sum.inr ("keepers" : Str) : Key) = Sum.inr ("functions" : Str)) := by decide +kernel
theorem w_words {H : Hp} {p a b c d : Addr} (e : H p = some (.dK (wL a b c d))) : DGet H p (.str ("words" : Str)) (some (.ref a)) := by
  rw [← show valV (wL a b c d) (Sum.inr ("words" : Str)) = some (.ref a) from valV_pos rfl]; exact DGet.k (k := Sum.inr ("words" : Str)) e
theorem w_asks {H : Hp} {p a b c d : Addr} (e : H p = some (.dK (wL a b c d))) : DGet H p (.str ("asks" : Str)) (some (.ref b)) := by
  rw [← show valV (wL a b c d) (Sum.inr ("asks" : Str)) = some (.ref b) from (valV_neg kWA).trans (valV_pos rfl)]; exact DGet.k (k := Sum.inr ("asks" : Str)) e
theorem w_keepers {H : Hp} {p a b c d : Addr} (e : H p = some (.dK (wL a b c d))) : DGet H p (.str ("keepers" : Str)) (some (.ref c)) := by
  rw [← show valV (wL a b c d) (Sum.inr ("keepers" : Str)) = some (.ref c) from (valV_neg kWK).trans ((valV_neg kAK).trans (valV_pos rfl))]; exact DGet.k (k := Sum.inr ("keepers" : Str)) e
theorem w_functions {H : Hp} {p a b c d : Addr} (e : H p = some (.dK (wL a b c d))) : DGet H p (.str ("functions" : Str)) (some (.ref d)) := by
  rw [← show valV (wL a b c d) (Sum.inr ("functions" : Str)) = some (.ref d) from (valV_neg kWF).trans ((valV_neg kAF).trans ((valV_neg kKF).trans (valV_pos rfl)))]; exact DGet.k (k := Sum.inr ("functions" : Str)) e
/-- where the builder works: the frame that holds the world, the box of draws, the world, the names bound, the heads -/
structure BC where
  F : Hp
  (d l w E L : Addr)
  W : WW
def KpB (C : BC) (H H' : Hp) : Prop := ∀ b o, H b = some o → b ≠ C.d → b ≠ C.l → b ≠ C.E → b ≠ C.L → H' b = some o
theorem KpB.refl (C : BC) (H : Hp) : KpB C H H := fun _ _ e _ _ _ _ => e
theorem KpB.trans {C : BC} {H H1 H2 : Hp} (a : KpB C H H1) (b : KpB C H1 H2) : KpB C H H2 := fun c o e h1 h2 h3 h4 => b c o (a c o e h1 h2 h3 h4) h1 h2 h3 h4
theorem KpB.same {C : BC} {H H' : Hp} (s : Same H H') : KpB C H H' := fun c o e _ _ _ _ => s c o e
theorem KpB.kp {C : BC} {H H' : Hp} (s : Kp C.d C.l H H') : KpB C H H' := fun c o e h1 h2 _ _ => s c o e h1 h2
structure BS (C : BC) (g : List Kd) (hs : List Hd) (H : Hp) : Prop where
  ok : C.W.Ok
  wd : WAt C.F C.w C.W
  fr : Same C.F H
  no : C.F C.d = none ∧ C.F C.l = none ∧ C.F C.E = none ∧ C.F C.L = none
  deal : DealAt H C.d C.l
  ne : C.E ≠ C.l ∧ C.L ≠ C.l ∧ C.E ≠ C.L
  e : ∃ us, H C.E = some (.lst us) ∧ Reps H (C.W.envD g) us
  h : ∃ us, H C.L = some (.lst us) ∧ Reps H (hs.map Hd.d) us
  good : ∀ κ ∈ g, C.W.good κ
theorem BS.hw {C : BC} {g : List Kd} {hs : List Hd} {H : Hp} (B : BS C g hs H) : WAt H C.w C.W := B.wd.same B.fr
theorem BS.nd {C : BC} {g : List Kd} {hs : List Hd} {H : Hp} (B : BS C g hs H) : C.E ≠ C.d ∧ C.L ≠ C.d := by
  obtain ⟨s, n, left, _, _, _, _, h1, h2⟩ := B.deal
  obtain ⟨us, e, _⟩ := B.e
  obtain ⟨ws, f, _⟩ := B.h
  exact ⟨ne_of e h1 (fun z => nomatch z), ne_of f h1 (fun z => nomatch z)⟩
/-- what none of the four is stays -/
theorem BS.off {C : BC} {g : List Kd} {hs : List Hd} {H : Hp} (B : BS C g hs H) {p : Addr} {vs : List V} (e : H p = some (.tup vs)) : p ≠ C.d ∧ p ≠ C.l ∧ p ≠ C.E ∧ p ≠ C.L := by
  have n := B.deal.not e (fun _ z => nomatch z) (fun _ z => nomatch z)
  obtain ⟨us, e1, _⟩ := B.e
  obtain ⟨ws, f1, _⟩ := B.h
  exact ⟨n.1, n.2, ne_of e e1 (fun z => nomatch z), ne_of e f1 (fun z => nomatch z)⟩
theorem BS.tk {C : BC} {g : List Kd} {hs : List Hd} {H H' : Hp} (B : BS C g hs H) (k : KpB C H H') : TupK H H' := fun p vs e => by
  obtain ⟨a, b, c, d⟩ := B.off e
  exact k _ _ e a b c d
theorem BS.new {C : BC} {g : List Kd} {hs : List Hd} {H : Hp} (B : BS C g hs H) {p : Addr} (e : H p = none) : p ≠ C.d ∧ p ≠ C.l ∧ p ≠ C.E ∧ p ≠ C.L := by
  have n := B.deal.new e
  obtain ⟨us, e1, _⟩ := B.e
  obtain ⟨ws, f1, _⟩ := B.h
  exact ⟨n.1, n.2, (ne_of_none e1 e).symm, (ne_of_none f1 e).symm⟩
theorem BS.same {C : BC} {g : List Kd} {hs : List Hd} {H H' : Hp} (B : BS C g hs H) (s : Same H H') : BS C g hs H' := by
  obtain ⟨us, e1, e2⟩ := B.e
  obtain ⟨ws, f1, f2⟩ := B.h
  exact ⟨B.ok, B.wd, B.fr.trans s, B.no, B.deal.same s, B.ne, ⟨us, s _ _ e1, e2.mono (TupK.same s)⟩, ⟨ws, s _ _ f1, f2.mono (TupK.same s)⟩, B.good⟩
/-- draws alone -/
theorem BS.kp {C : BC} {g : List Kd} {hs : List Hd} {H H' : Hp} (B : BS C g hs H) (D : DealAt H' C.d C.l) (k : Kp C.d C.l H H') : BS C g hs H' := by
  obtain ⟨us, e1, e2⟩ := B.e
  obtain ⟨ws, f1, f2⟩ := B.h
  have tk := TupK.kp B.deal k
  have nd := B.nd
  refine ⟨B.ok, B.wd, fun b o e => k _ _ (B.fr _ _ e) (fun z => ?_) (fun z => ?_), B.no, D, B.ne, ⟨us, k _ _ e1 nd.1 B.ne.1, e2.mono tk⟩, ⟨ws, k _ _ f1 nd.2 B.ne.2.1, f2.mono tk⟩, B.good⟩
  · rw [z, B.no.1] at e; cases e
  · rw [z, B.no.2.1] at e; cases e
/-- a name more -/
theorem BS.env {C : BC} {g : List Kd} {hs : List Hd} {H : Hp} (B : BS C g hs H) {κ : Kd} (hκ : C.W.good κ) {us : List V} {v : V} (e : H C.E = some (.lst us)) (r : Rep H (.t [.s (C.W.nm g.length), κ.d]) v) : BS C (g ++ [κ]) hs (upd H C.E (.lst (us ++ [v]))) := by
  obtain ⟨us', e1, e2⟩ := B.e
  obtain ⟨ws, f1, f2⟩ := B.h
  obtain rfl : us' = us := by rw [e] at e1; injection e1 with e1; injection e1 with e1; exact e1.symm
  have nd := B.nd
  have tk : TupK H (upd H C.E (.lst (us' ++ [v]))) := tk_lst e
  refine ⟨B.ok, B.wd, fun b o h => by rw [upd_ne (fun z => by rw [z, B.no.2.2.1] at h; cases h)]; exact B.fr _ _ h, B.no, B.deal.upd ⟨nd.1, B.ne.1⟩, B.ne, ⟨_, upd_same, ?_⟩, ⟨ws, (upd_ne B.ne.2.2.symm).trans f1, f2.mono tk⟩, fun y hy => ?_⟩
  · rw [envD_snoc]; exact Reps.append (e2.mono tk) (Reps.cons (r.mono tk) rfl)
  · rcases List.mem_append.mp hy with hy | hy
    · exact B.good y hy
    · rw [List.mem_singleton.mp hy]; exact hκ
/-- a head more -/
theorem BS.head {C : BC} {g : List Kd} {hs : List Hd} {H : Hp} (B : BS C g hs H) {h : Hd} {us : List V} {v : V} (e : H C.L = some (.lst us)) (r : Rep H h.d v) : BS C g (hs ++ [h]) (upd H C.L (.lst (us ++ [v]))) := by
  obtain ⟨us', e1, e2⟩ := B.h
  obtain ⟨ws, f1, f2⟩ := B.e
  obtain rfl : us' = us := by rw [e] at e1; injection e1 with e1; injection e1 with e1; exact e1.symm
  have nd := B.nd
  have tk : TupK H (upd H C.L (.lst (us' ++ [v]))) := tk_lst e
  refine ⟨B.ok, B.wd, fun b o h => by rw [upd_ne (fun z => by rw [z, B.no.2.2.2] at h; cases h)]; exact B.fr _ _ h, B.no, B.deal.upd ⟨nd.2, B.ne.2.1⟩, B.ne, ⟨ws, (upd_ne B.ne.2.2).trans f1, f2.mono tk⟩, ⟨_, upd_same, ?_⟩, B.good⟩
  rw [List.map_append]; exact Reps.append (e2.mono tk) (Reps.cons (r.mono tk) rfl)
theorem KpB.env {C : BC} {H : Hp} {o : HO} : KpB C H (upd H C.E o) := fun b u e _ _ h3 _ => by rw [upd_ne h3]; exact e
theorem KpB.head {C : BC} {H : Hp} {o : HO} : KpB C H (upd H C.L o) := fun b u e _ _ _ h4 => by rw [upd_ne h4]; exact e
theorem BS.el {C : BC} {g : List Kd} {hs : List Hd} {H : Hp} (B : BS C g hs H) : ∃ us, H C.E = some (.lst us) ∧ us.length = g.length := by
  obtain ⟨us, e1, e2⟩ := B.e
  exact ⟨us, e1, by rw [Reps.len e2, envD_len]⟩
theorem BS.hl {C : BC} {g : List Kd} {hs : List Hd} {H : Hp} (B : BS C g hs H) : ∃ us, H C.L = some (.lst us) ∧ us.length = hs.length := by
  obtain ⟨us, e1, e2⟩ := B.h
  exact ⟨us, e1, by rw [Reps.len e2, List.length_map]⟩
/-- heads put behind, names bound along: at most c pieces of their own, m names -/
structure Stp (C : BC) (c m : Nat) (g : List Kd) (hs : List Hd) (H : Hp) (g' : List Kd) (hs' : List Hd) (H' : Hp) : Prop where
  ht : ∃ x ms, g' = g ++ x ∧ hs' = hs ++ ms ∧ x.length ≤ m ∧ HTy C.W g ms g' ∧ ms.length + C.W.lack g' ≤ C.W.lack g + c
  bs : BS C g' hs' H'
  kp : KpB C H H'
theorem Stp.trans {C : BC} {c c' m m' : Nat} {g g1 g2 : List Kd} {hs h1 h2 : List Hd} {H H1 H2 : Hp} (a : Stp C c m g hs H g1 h1 H1) (b : Stp C c' m' g1 h1 H1 g2 h2 H2) : Stp C (c + c') (m + m') g hs H g2 h2 H2 := by
  obtain ⟨x, ms, rfl, rfl, l1, t1, k1⟩ := a.ht
  obtain ⟨y, ns, rfl, rfl, l2, t2, k2⟩ := b.ht
  refine ⟨⟨x ++ y, ms ++ ns, by rw [List.append_assoc], by rw [List.append_assoc], by rw [List.length_append]; omega, HTy.app t1 t2, by rw [List.length_append]; omega⟩, b.bs, a.kp.trans b.kp⟩
theorem Stp.refl {C : BC} {g : List Kd} {hs : List Hd} {H H' : Hp} (b : BS C g hs H') (k : KpB C H H') : Stp C 0 0 g hs H g hs H' := ⟨⟨[], [], by simp, by simp, Nat.le_refl _, rfl, by simp⟩, b, k⟩
theorem Stp.le {C : BC} {c m c' m' : Nat} {g g' : List Kd} {hs hs' : List Hd} {H H' : Hp} (a : Stp C c m g hs H g' hs' H') (h1 : c ≤ c') (h2 : m ≤ m') : Stp C c' m' g hs H g' hs' H' := by
  obtain ⟨x, ms, rfl, rfl, l1, t1, k1⟩ := a.ht
  exact ⟨⟨x, ms, rfl, rfl, by omega, t1, by omega⟩, a.bs, a.kp⟩
theorem Stp.len {C : BC} {c m : Nat} {g g' : List Kd} {hs hs' : List Hd} {H H' : Hp} (a : Stp C c m g hs H g' hs' H') : g.length ≤ g'.length ∧ g'.length ≤ g.length + m ∧ hs'.length ≤ hs.length + 13 + c := by
  obtain ⟨x, ms, rfl, rfl, l1, t1, k1⟩ := a.ht
  have := lack_le a.bs.ok g
  refine ⟨by rw [List.length_append]; omega, by rw [List.length_append]; omega, by rw [List.length_append]; omega⟩
theorem Stp.ext {C : BC} {c m : Nat} {g g' : List Kd} {hs hs' : List Hd} {H H' : Hp} (a : Stp C c m g hs H g' hs' H') : ∃ x, g' = g ++ x := by
  obtain ⟨x, ms, rfl, _⟩ := a.ht
  exact ⟨x, rfl⟩
theorem Stp.at {C : BC} {c m : Nat} {g g' : List Kd} {hs hs' : List Hd} {H H' : Hp} (a : Stp C c m g hs H g' hs' H') {κ : Kd} {z : Atom} (h : AtTy C.W g κ z) : AtTy C.W g' κ z := by
  obtain ⟨x, rfl⟩ := a.ext
  exact h.mono x
/-- a piece that tells -/
theorem Stp.tell {C : BC} {g : List Kd} {hs : List Hd} {H : Hp} (B : BS C g hs H) {a : Atom} (h : AtTy C.W g .num a) {us : List V} {v : V} (e : H C.L = some (.lst us)) (r : Rep H (Hd.tell a).d v) : Stp C 1 0 g hs H g (hs ++ [.tell a]) (upd H C.L (.lst (us ++ [v]))) :=
  ⟨⟨[], [.tell a], by simp, rfl, Nat.le_refl _, ⟨h, rfl⟩, by simp; omega⟩, B.head e r, KpB.head⟩
/-- a piece that binds: the name stands already -/
theorem Stp.bind {C : BC} {g : List Kd} {hs : List Hd} {H H1 : Hp} {κ : Kd} (hk : KpB C H H1) (B : BS C (g ++ [κ]) hs H1) {m : Made} (h : MTy C.W g κ m) {us : List V} {v : V} (e : H1 C.L = some (.lst us)) (r : Rep H1 (Hd.bind (C.W.nm g.length) m).d v) : Stp C 1 1 g hs H (g ++ [κ]) (hs ++ [.bind (C.W.nm g.length) m]) (upd H1 C.L (.lst (us ++ [v]))) := by
  have := lack_app C.W g [κ]
  exact ⟨⟨[κ], [_], rfl, rfl, Nat.le_refl _, ⟨κ, B.good κ (by simp), h, rfl, rfl⟩, by show 1 + _ ≤ _; omega⟩, B.head e r, hk.trans KpB.head⟩
/-- an empty row, of a kind that isn't there -/
theorem Stp.empty {C : BC} {g : List Kd} {hs : List Hd} {H H1 : Hp} {κ : Kd} (hk : KpB C H H1) (B : BS C (g ++ [κ]) hs H1) (hr : κ.row) (n : κ ∉ g) {us : List V} {v : V} (e : H1 C.L = some (.lst us)) (r : Rep H1 (Hd.bind (C.W.nm g.length) (.empty κ)).d v) : Stp C 0 1 g hs H (g ++ [κ]) (hs ++ [.bind (C.W.nm g.length) (.empty κ)]) (upd H1 C.L (.lst (us ++ [v]))) := by
  have hg := B.good κ (by simp)
  have := lack_new n hr hg
  exact ⟨⟨[κ], [_], rfl, rfl, Nat.le_refl _, ⟨κ, hg, ⟨rfl, hr, hg⟩, rfl, rfl⟩, by show 1 + _ ≤ _; omega⟩, B.head e r, hk.trans KpB.head⟩
def spBound : Sp := fun vs H Q _ => ∃ (C : BC) (g : List Kd) (hs : List Hd) (κ : Kd) (kv : V), vs = [.ref C.w, .ref C.E, kv] ∧ BS C g hs H ∧ Rep H κ.d kv ∧ C.W.good κ ∧ g.length ≤ 81 ∧ ∀ H', BS C (g ++ [κ]) hs H' → KpB C H H' → Q (.str (C.W.nm g.length)) H'
section
variable {P : Program} {w : World} {K : PySem.W.Frag} {mg : Str → Option Value} {base : Heap}
theorem ok_l_bound {f : Addr} {fd : FuncData} (D : Fn K mg "_law_bound" st_l_bound ["_law_world", "_law_env", "_law_kind"] f fd) (T : BltB mg) : FnOk P w K mg base CX0 1 f fd ["_law_world", "_law_env", "_law_kind"] spBound := by
  refine D.F.ok sc_l_bound (fun vs H Q E h => ?_) (fun cdv A outer s H vs Q E hr h => ?_)
  · obtain ⟨C, g, hs, κ, kv, rfl, _⟩ := h
    rfl
  · obtain ⟨C, g, hs, κ, kv, rfl, B, rk, gk, hl, k⟩ := h
    have hu := hu_of hr
    obtain ⟨pw, pa, pk, pf, ua, uk, uf, h1, h2, _⟩ := B.hw
    obtain ⟨us, e1, l1⟩ := B.el
    refine ⟨_, (pss_cons (ps_set (i := 3) sc_l_bound.nd rfl (Or.inl rfl) (pe_ix ix_list (pe_dget hu (pv 0) pe_str (fun _ _ => rfl)) (pe_op op_add pe_int (pe_callB call_len_seq (by rfl) T.len (by decide +kernel) (pa_cons (pv 1) pa_nil))) (fun _ _ => rfl)))
      (pss_cons (ps_expr (pe_bm PySem.F.plainAttrs_list PySem.F.slot_list_append PySem.F.type_list_append mt_append (pv 1) (pa_cons (pe_tup (pa_cons (pv 3) (pa_cons (pv 2) pa_nil))) pa_nil)))
      (pss_one (ps_ret (pv 3))))), ?_⟩
    have at1 : atI (C.W.words.map V.str) (14 + (us.length : Int)) = some (.str (C.W.nm g.length)) := by
      rw [l1, show (14 : Int) + (g.length : Int) = ((14 + g.length : Nat) : Int) by omega]
      exact atI_nat (by rw [List.getElem?_map, nm_at B.ok (by omega)]; rfl)
    refine ⟨_, rfl, C.w, .ref pw, rfl, w_words h1, _, rfl, C.E, us, rfl, .inl (SqL.of e1), _, _, rfl, rfl, pw, _, _, _, rfl, rfl, SqL.of h2, at1, ?_⟩
    refine ⟨_, rfl, .inl ⟨rfl, _, SqL.of e1⟩, _, rfl, _, rfl, by show 2 ≤ sizeLine; decide, fun t ht => ?_⟩
    have s1 := Same.new (o := .tup [V.str (C.W.nm g.length), kv]) ht
    have r1 := Rep.new (ds := [.s (C.W.nm g.length), κ.d]) (vs := [V.str (C.W.nm g.length), kv]) ht (Reps.cons rfl (Reps.cons rk rfl))
    refine ⟨C.E, us, _, rfl, rfl, s1 _ _ e1, small1000 (by omega), _, rfl, ?_⟩
    exact k _ ((B.same s1).env gk (s1 _ _ e1) r1) ((KpB.same s1).trans KpB.env)
end
end Ak
namespace Ak
open PySem L2
local macro_rules | `(tactic| walk_at "no attr") => `(tactic| exact rwF_no _ _ _ (by decide +kernel) (by decide +kernel) (by decide +kernel))
/-! ### what stands of a kind -/
abbrev st_l_have : Stmt := top 15
theorem sc_l_have : FnScope ["_law_deal_here", "_law_world", "_law_env", "_law_kind", "_law_heads_here", "_law_name", "_law_some", "_law_great", "_law_one"] ["_law_deal_here", "_law_world", "_law_env", "_law_kind", "_law_heads_here"] (defScope st_l_have) := ⟨rfl, rfl, rfl, by decide +kernel, rfl, by decide +kernel, by decide +kernel⟩
/-! kinds compared -/
def CpOk (x : Str) : Prop := ∀ c ∈ x.cps.toList, c < 1114112
theorem cp_ok {x : Str} (h : CpOk x) : PyData.canLay0 (.str x) = true := by
  rw [PyData.canLay0]
  unfold PyData.strOk
  rw [← Array.all_toList, List.all_eq_true]
  exact fun c hc => decide_eq_true (h c hc)
theorem cp_name {x : Str} (h : isName x = true) : CpOk x := fun c hc => by
  have := (name_parts h).2.2.1 c hc
  omega
theorem lay_strs : ∀ {xs : List Str}, (∀ x ∈ xs, CpOk x) → PyData.canLayAll0 (xs.map PyData.str) = true
  | [], _ => by simp [PyData.canLayAll0]
  | x :: r, h => by
    rw [List.map_cons, PyData.canLayAll0, Bool.and_eq_true]
    exact ⟨cp_ok (h x (by simp)), lay_strs fun y hy => h y (by simp [hy])⟩
theorem dep_strs : ∀ xs : List Str, PyData.depthAll (xs.map PyData.str) = 0
  | [] => by simp [PyData.depthAll]
  | x :: r => by rw [List.map_cons, PyData.depthAll, dep_strs r]; simp [PyData.depth]
theorem shp_strT {xs : List Str} (h : ∀ x ∈ xs, CpOk x) : SeqAt.shaped (.tuple (xs.map PyData.str)) = true := by
  unfold SeqAt.shaped
  rw [Bool.and_eq_true]
  refine ⟨by rw [PyData.canLay0]; exact lay_strs h, decide_eq_true ?_⟩
  rw [PyData.depth, dep_strs]; decide
theorem eqvA_strs : ∀ xs ys : List Str, PyData.eqvAll (xs.map PyData.str) (ys.map PyData.str) = decide (xs = ys)
  | [], [] => by simp [PyData.eqvAll]
  | [], _ :: _ => by simp [PyData.eqvAll]
  | _ :: _, [] => by simp [PyData.eqvAll]
  | x :: xs, y :: ys => by
    rw [List.map_cons, List.map_cons, PyData.eqvAll, eqvA_strs xs ys]
    have : PyData.eqv (.str x) (.str y) = decide (x = y) := by
      simp only [PyData.eqv]
      by_cases e : x = y
      · simp [e]
      · simp [e]
    rw [this, ← Bool.decide_and]
    exact decide_eq_decide.mpr ⟨fun ⟨a, b⟩ => by rw [a, b], fun e => List.cons.inj e⟩
theorem eqv_strT (xs ys : List Str) : PyData.eqv (.tuple (xs.map PyData.str)) (.tuple (ys.map PyData.str)) = decide (xs = ys) := by
  simp only [PyData.eqv]
  exact eqvA_strs xs ys
theorem dpA_strs {K : PySem.W.Frag} {H : Hp} : ∀ xs : List Str, DpAll K H (xs.map V.str) (xs.map PyData.str)
  | [] => .nil
  | x :: r => .cons (.str x) (dpA_strs r)
theorem rep_ss {H : Hp} {ws : List Str} {v : V} (h : Rep H (.t (ws.map Ak.D.s)) v) : ∃ p, v = .ref p ∧ H p = some (.tup (ws.map V.str)) := by
  obtain ⟨p, vs, e, hp, r⟩ := h
  refine ⟨p, e, ?_⟩
  have : ∀ (ws : List Str) (vs : List V), Reps H (ws.map Ak.D.s) vs → vs = ws.map V.str := by
    intro ws
    induction ws with
    | nil => exact fun vs h => h
    | cons x r ih =>
      rintro vs ⟨v, t, e, h1, h2⟩
      rw [e, ih t h2, show v = _ from h1]; rfl
  rw [hp, this ws vs r]
theorem kd_cp {κ : Kd} (h : κ.Ok) : ∀ x ∈ κ.w, CpOk x := by
  have fx : ∀ x ∈ (["num", "nums", "hold", "holds"] : List Str), CpOk x := by
    show ∀ x ∈ (["num", "nums", "hold", "holds"] : List Str), ∀ c ∈ x.cps.toList, c < 1114112
    decide +kernel
  cases κ with
  | num => exact fun x hx => fx x (by rw [List.mem_singleton.mp hx]; decide +kernel)
  | nums => exact fun x hx => fx x (by rw [List.mem_singleton.mp hx]; decide +kernel)
  | hold k q =>
    intro x hx
    simp only [Kd.w, List.mem_cons, List.not_mem_nil, or_false] at hx
    rcases hx with rfl | rfl | rfl
    · exact fx _ (by decide +kernel)
    · exact cp_name h.1
    · exact cp_name h.2
  | holds k q =>
    intro x hx
    simp only [Kd.w, List.mem_cons, List.not_mem_nil, or_false] at hx
    rcases hx with rfl | rfl | rfl
    · exact fx _ (by decide +kernel)
    · exact cp_name h.1
    · exact cp_name h.2
theorem kd_w : ∀ {a b : Kd}, a.w = b.w → a = b := by
  have n1 : ("hold" : Str) ≠ "holds" := by decide +kernel
  have n2 : ("num" : Str) ≠ "nums" := by decide +kernel
  intro a b h
  cases a <;> cases b <;> simp_all [Kd.w]
theorem eqK {K : PySem.W.Frag} {H : Hp} {a b : V} {κ κ' : Kd} {Q : VK} (h1 : Rep H κ.d a) (h2 : Rep H κ'.d b) (o1 : κ.Ok) (o2 : κ'.Ok) (q : Q (.bl (decide (κ = κ'))) H) : rEqD K a b H Q := by
  obtain ⟨p, rfl, hp⟩ := rep_ss h1
  obtain ⟨p', rfl, hp'⟩ := rep_ss h2
  refine ⟨_, _, .tup (SqT.of hp) (dpA_strs _), .tup (SqT.of hp') (dpA_strs _), shp_strT (kd_cp o1), shp_strT (kd_cp o2), ?_⟩
  rw [eqv_strT, show decide (κ.w = κ'.w) = decide (κ = κ') from decide_eq_decide.mpr ⟨kd_w, fun e => by rw [e]⟩]
  exact q
theorem good_ok {W : WW} (ok : W.Ok) {κ : Kd} (h : W.good κ) : κ.Ok := by
  have : ∀ k q, W.pair k q → isName k = true ∧ isName q = true := by
    rintro k q ⟨kw, hk, rfl, hq⟩
    obtain ⟨a, ha, rfl⟩ := (ok.kh kw hk).2.2 q hq
    exact ⟨ok.ki kw hk, ok.ai a ha⟩
  cases κ with
  | num => trivial
  | nums => trivial
  | hold k q => exact this k q h
  | holds k q => exact this k q h
theorem decS_num {K : PySem.W.Frag} {i : Nat} {σ : L2.St} {H : Hp} {κ : Kd} {v : V} (e : σ[i]? = some (some v)) (r : Rep H κ.d v) (ko : κ.Ok) : DecS (tTest (tOp (rEqD K) (tVar i) (tTup (tCons (tC (.str ("num" : Str))) tNil)))) σ H (κ = .num) := fun Q a b => ⟨_, e, by show 1 ≤ sizeLine; decide, fun t ht => eqK (κ' := .num) (r.mono (TupK.same (Same.new ht))) (Rep.new (ds := [.s "num"]) ht (Reps.cons rfl rfl)) ko trivial ⟨_, rfl, by
  by_cases c : κ = .num
  · rw [decide_eq_true c]; exact a _ (Same.new ht) c
  · rw [decide_eq_false c]; exact b _ (Same.new ht) c⟩⟩
theorem kd_at {H : Hp} {κ : Kd} {v : V} (r : Rep H κ.d v) : ∃ p, v = .ref p ∧ H p = some (.tup (κ.w.map V.str)) := rep_ss r
def Kd.hd : Kd → Str | .num => "num" | .nums => "nums" | .hold _ _ => "hold" | .holds _ _ => "holds"
theorem kd_at0 {H : Hp} {κ : Kd} {p : Addr} (e : H p = some (.tup (κ.w.map V.str))) : atI (κ.w.map V.str) 0 = some (.str κ.hd) := by cases κ <;> exact at0 _ _
instance (κ : Kd) : Decidable κ.row := by cases κ <;> (unfold Kd.row; infer_instance)
theorem decS_row {K : PySem.W.Frag} {i : Nat} {σ : L2.St} {H : Hp} {κ : Kd} {v : V} (e : σ[i]? = some (some v)) (r : Rep H κ.d v) : DecS (tTest (tOp (rIn K false) (tOp (rIxT K) (tVar i) (tC (.int 0))) (tTup (tCons (tC (.str ("nums" : Str))) (tCons (tC (.str ("holds" : Str))) tNil))))) σ H κ.row := fun Q a b => by
  obtain ⟨p, rfl, hp⟩ := kd_at r
  refine ⟨_, e, p, _, 0, _, rfl, rfl, SqT.of hp, kd_at0 hp, by show 2 ≤ sizeLine; decide, fun t ht => ⟨t, _, rfl, .inr (SqT.of upd_same), rfl, rfl, _, rfl, ?_⟩⟩
  have hi : inV (.str κ.hd) [.str ("nums" : Str), .str ("holds" : Str)] = decide κ.row := by
    cases κ with
    | num => exact (by decide +kernel : inV (.str ("num" : Str)) [.str ("nums" : Str), .str ("holds" : Str)] = false)
    | nums => exact (by decide +kernel : inV (.str ("nums" : Str)) [.str ("nums" : Str), .str ("holds" : Str)] = true)
    | hold k q => exact (by decide +kernel : inV (.str ("hold" : Str)) [.str ("nums" : Str), .str ("holds" : Str)] = false)
    | holds k q => exact (by decide +kernel : inV (.str ("holds" : Str)) [.str ("nums" : Str), .str ("holds" : Str)] = true)
  show Q (inV (.str κ.hd) [.str ("nums" : Str), .str ("holds" : Str)]) _
  rw [hi]
  by_cases c : κ.row
  · rw [decide_eq_true c]; exact a _ (Same.new ht) c
  · rw [decide_eq_false c]; exact b _ (Same.new ht) c
/-- a head put behind the heads -/
theorem app_hd {K : PySem.W.Frag} {C : BC} {g : List Kd} {hs : List Hd} {H : Hp} (B : BS C g hs H) (hl : hs.length ≤ 950) {h : Hd} {te : TE} {σ : L2.St} {i : Nat} {E : Ends} (e : σ[i]? = some (some (.ref C.L))) (mk : MkD te σ H h.d) (k : ∀ us v H', Same H H' → H' C.L = some (.lst us) → Rep H' h.d v → E.nx σ (upd H' C.L (.lst (us ++ [v])))) : tDrop (tBM K "list" rAppend (tVar i) (tCons te tNil)) E σ H := by
  obtain ⟨us, e1, l1⟩ := B.hl
  exact ⟨_, e, .inl ⟨rfl, _, SqL.of e1⟩, mk H (Same.refl H) _ fun v H' s r => ⟨C.L, us, v, rfl, rfl, s _ _ e1, small1000 (by omega), k us v H' s (s _ _ e1) r⟩⟩
/-- where a kind stands -/
def ixsK (g : List Kd) (κ : Kd) (n : Nat) : List Nat := (List.range n).filter fun i => decide (g[i]? = some κ)
theorem ixsK_succ (g : List Kd) (κ : Kd) (n : Nat) : ixsK g κ (n + 1) = ixsK g κ n ++ if g[n]? = some κ then [n] else [] := by
  unfold ixsK
  rw [List.range_succ, List.filter_append]
  by_cases h : g[n]? = some κ
  · rw [if_pos h]; simp [h]
  · rw [if_neg h]; simp [h]
theorem ixsK_mem {g : List Kd} {κ : Kd} {n i : Nat} (h : i ∈ ixsK g κ n) : g[i]? = some κ := by
  unfold ixsK at h
  exact of_decide_eq_true (List.mem_filter.mp h).2
theorem ixsK_nil {g : List Kd} {κ : Kd} (h : ixsK g κ g.length = []) : κ ∉ g := fun z => by
  obtain ⟨i, hi, e⟩ := List.mem_iff_getElem.mp z
  have : i ∈ ixsK g κ g.length := List.mem_filter.mpr ⟨List.mem_range.mpr hi, decide_eq_true (by rw [List.getElem?_eq_getElem hi, e])⟩
  rw [h] at this; cases this
theorem ixsK_len (g : List Kd) (κ : Kd) (n : Nat) : (ixsK g κ n).length ≤ n := by
  unfold ixsK
  exact Nat.le_trans (List.length_filter_le _ _) (by rw [List.length_range]; exact Nat.le_refl _)
def oaV : Option Atom → V | none => .non | some a => a.v
def spHave : Sp := fun vs H Q _ => ∃ (C : BC) (g : List Kd) (hs : List Hd) (κ : Kd) (kv : V), vs = [.ref C.d, .ref C.w, .ref C.E, kv, .ref C.L] ∧ BS C g hs H ∧ Rep H κ.d kv ∧ C.W.good κ ∧ g.length ≤ 81 ∧ hs.length ≤ 900 ∧ ∀ (oa : Option Atom) (g' : List Kd) (hs' : List Hd) (H' : Hp), Stp C 0 1 g hs H g' hs' H' → (oa = none → (∃ k q, κ = .hold k q) ∧ κ ∉ g) → (∀ a, oa = some a → AtTy C.W g' κ a) → Q (oaV oa) H'
section
variable {P : Program} {w : World} {K : PySem.W.Frag} {mg : Str → Option Value} {base : Heap} {f1 f2 : Addr} {d1 d2 : FuncData}
theorem ok_l_have {f : Addr} {fd : FuncData} (D : Fn K mg "_law_have" st_l_have ["_law_deal_here", "_law_world", "_law_env", "_law_kind", "_law_heads_here"] f fd) (T : BltB mg) (D_l_draw : Fn K mg "_law_draw" st_l_draw ["_law_deal_here", "_law_many"] f1 d1) (G_l_draw : FnOk P w K mg base CX0 1 f1 d1 ["_law_deal_here", "_law_many"] spDraw)
    (D_l_bound : Fn K mg "_law_bound" st_l_bound ["_law_world", "_law_env", "_law_kind"] f2 d2) (G_l_bound : FnOk P w K mg base CX0 1 f2 d2 ["_law_world", "_law_env", "_law_kind"] spBound) : FnOk P w K mg base CX0 2 f fd ["_law_deal_here", "_law_world", "_law_env", "_law_kind", "_law_heads_here"] spHave := by
  refine D.F.ok sc_l_have (fun vs H Q E h => ?_) (fun cdv A outer s H vs Q E hr h => ?_)
  · obtain ⟨C, g, hs, κ, kv, rfl, _⟩ := h
    rfl
  · obtain ⟨C, g, hs, κ, kv, rfl, B, rk, gk, hl, hhl, k⟩ := h
    obtain ⟨us, e1, l1⟩ := B.el
    have re : Reps H (C.W.envD g) us := by
      obtain ⟨us', e, r⟩ := B.e
      obtain rfl : us' = us := by rw [e1] at e; injection e with e; injection e with e; exact e.symm
      exact r
    have ko := good_ok B.ok gk
    refine ⟨_, (pss_cons (ps_setLc (i := 6) (own := [("_law_name", 5), ("_law_one", 8)]) (g := gTup K 2 (gCons (gName 5) (gCons (gName 8) (gNil)))) (tt := tTest (tOp (rEqD K) (tVar 8) (tVar 3))) (te := (tVar 5)) rfl sc_l_have.nd rfl rfl (sw_true rfl rfl rfl (by decide +kernel)) (pi_list (pv 2)) (blkOk_by (own := [("_law_name", 5), ("_law_one", 8)]) (N := ["_law_deal_here", "_law_world", "_law_env", "_law_kind", "_law_heads_here", "_law_name", "_law_some", "_law_great", "_law_one"]) (sc := defScope st_l_have) (by decide +kernel)) (fun _ _ _ _ _ => (pg_tup (by rfl) (pgs_cons (pg_name (i := 5) sc_l_have.nd rfl (Or.inl rfl)) (pgs_cons (pg_name (i := 8) sc_l_have.nd rfl (Or.inl rfl)) pgs_nil)))) (fun _ _ _ _ _ => (pts_one (pt_cmpR (op_eqD hr.units) (pv 8) (pv 3) (nomark _)))) (fun _ _ _ _ _ => (pv 5)))
      (pss_cons (ps_if (PW.pt (pw_and (pt_cmpR (op_eqD hr.units) (pv 3) (pe_tup (pa_cons pe_str pa_nil)) (nomark _)) (pw_and1 (PW.pt (pw_or (pt_cmpR op_eq (pe_callB call_len_seq (by rfl) T.len (by decide +kernel) (pa_cons (pv 6) pa_nil)) pe_int (nomark _)) (pw_or1 (pt_cmpR op_eq (pe_call G_l_draw (hr.mono (by decide)) rfl D_l_draw.mg D_l_draw.kp D_l_draw.b .nil pass0 (pa_cons (pv 0) (pa_cons pe_int pa_nil))) pe_int (nomark _)))))))) (pss_cons (ps_set (i := 7) sc_l_have.nd rfl (Or.inl rfl) (pe_op op_sub pe_int (pe_call G_l_draw (hr.mono (by decide)) rfl D_l_draw.mg D_l_draw.kp D_l_draw.b .nil pass0 (pa_cons (pv 0) (pa_cons (pe_op op_pow pe_int pe_int) pa_nil)))))
      (pss_one (ps_ret (pe_ix ix_list (pe_lst (pa_cons pe_int (pa_cons pe_int (pa_cons pe_int (pa_cons pe_int (pa_cons (pv 7) pa_nil)))))) (pe_call G_l_draw (hr.mono (by decide)) rfl D_l_draw.mg D_l_draw.kp D_l_draw.b .nil pass0 (pa_cons (pv 0) (pa_cons pe_int pa_nil))) (fun _ _ => rfl))))) pss_nil)
      (pss_cons (ps_if (PW.pt (pw_and (pt_cmpR op_eq (pe_callB call_len_seq (by rfl) T.len (by decide +kernel) (pa_cons (pv 6) pa_nil)) pe_int (nomark _)) (pw_and1 (pt_cmpR op_in_seq (pe_ix ix_tup (pv 3) pe_int (fun _ _ => rfl)) (pe_tup (pa_cons pe_str (pa_cons pe_str pa_nil))) (by rfl))))) (pss_cons (ps_set (i := 5) sc_l_have.nd rfl (Or.inl rfl) (pe_call G_l_bound (hr.mono (by decide)) rfl D_l_bound.mg D_l_bound.kp D_l_bound.b .nil pass0 (pa_cons (pv 1) (pa_cons (pv 2) (pa_cons (pv 3) pa_nil)))))
      (pss_cons (ps_expr (pe_bm PySem.F.plainAttrs_list PySem.F.slot_list_append PySem.F.type_list_append mt_append (pv 4) (pa_cons (pe_tup (pa_cons pe_str (pa_cons (pv 5) (pa_cons (pv 3) pa_nil)))) pa_nil)))
      (pss_one (ps_ret (pv 5))))) pss_nil)
      (pss_cons (ps_if (pt_cmpR op_eq (pe_callB call_len_seq (by rfl) T.len (by decide +kernel) (pa_cons (pv 6) pa_nil)) pe_int (nomark _)) (pss_one (ps_ret pe_non)) pss_nil)
      (pss_one (ps_ret (pe_ix ix_list (pv 6) (pe_callB (call_max2 rfl) (by rfl) T.max (by decide +kernel) (pa_cons (pe_call G_l_draw (hr.mono (by decide)) rfl D_l_draw.mg D_l_draw.kp D_l_draw.b .nil pass0 (pa_cons (pv 0) (pa_cons (pe_callB call_len_seq (by rfl) T.len (by decide +kernel) (pa_cons (pv 6) pa_nil)) pa_nil))) (pa_cons (pe_call G_l_draw (hr.mono (by decide)) rfl D_l_draw.mg D_l_draw.kp D_l_draw.b .nil pass0 (pa_cons (pv 0) (pa_cons (pe_callB call_len_seq (by rfl) T.len (by decide +kernel) (pa_cons (pv 6) pa_nil)) pa_nil))) pa_nil))) (fun _ _ => rfl)))))))), ?_⟩
    refine ⟨_, rfl, C.E, rfl, ⟨_, SqL.of e1⟩, fun M hM => lc_it walk_list (fun i J => Same H J ∧ J M = some (.lst ((ixsK g κ i).map fun j => V.str (C.W.nm j)))) ⟨Same.new hM, upd_same⟩ (fun i J _ z => SqL.of (z.1 _ _ e1)) (fun i x J J1 hi z yy => ?_) fun J z => ?_⟩
    · obtain ⟨rfl, ex⟩ := yy
      obtain ⟨sJ, hJ⟩ := z
      rw [l1] at hi
      have eg : g[i]? = some g[i] := List.getElem?_eq_getElem hi
      have hm := List.mem_of_getElem? eg
      have e3 := ixsK_succ g κ i
      generalize g[i] = κ' at eg hm
      obtain ⟨y, ey, ry⟩ := Reps.get re (j := i) (d := .t [.s (C.W.nm i), κ'.d]) (by rw [envD_get, eg]; rfl)
      obtain rfl : y = x := by rw [ey] at ex; exact Option.some.inj ex
      obtain ⟨p, vs, rfl, hp, v0, _, rfl, e0, v1, _, rfl, r1, er⟩ := ry
      cases (show v0 = _ from e0)
      cases er
      refine ⟨p, _, rfl, SqT.of (sJ _ _ hp), rfl, _, _, rfl, _, _, rfl, rfl, rfl, ?_⟩
      refine ⟨_, rfl, _, rfl, eqK (r1.mono (TupK.same sJ)) (rk.mono (TupK.same sJ)) (good_ok B.ok (B.good _ hm)) ko ⟨_, rfl, ite2 (fun c => ?_) fun c => ?_⟩⟩
      · have c := of_decide_eq_true c
        refine ⟨_, rfl, _, hJ, small1000 (by rw [List.length_map]; have := ixsK_len g κ i; omega), fun b o e => ?_, ?_⟩
        · rw [upd_ne (ne_of_none e hM)]; exact sJ b o e
        · rw [upd_same, e3, if_pos (by rw [eg, c]), List.map_append]; rfl
      · have c' : ¬ κ' = κ := fun z => c (decide_eq_true z)
        exact ⟨sJ, by rw [e3, if_neg (by rw [eg]; exact fun z => c' (Option.some.inj z)), List.append_nil]; exact hJ⟩
    · obtain ⟨sJ, hJ⟩ := z
      rw [l1] at hJ
      have BJ := B.same sJ
      have lx := ixsK_len g κ g.length
      have mx : ∀ i ∈ ixsK g κ g.length, g[i]? = some κ := fun i hi => ixsK_mem hi
      have nx : ixsK g κ g.length = [] → κ ∉ g := ixsK_nil
      generalize ixsK g κ g.length = xs at hJ lx mx nx
      have rkJ := rk.mono (TupK.same sJ)
      have nM := B.new hM
      unfold gName
      dsimp only
      refine decK_if (d := C.d) (l := C.l) (decK_and (decK_of (decS_num (κ := κ) rfl rkJ ko)) fun H1 D1 k1 _ => decK_or (by exact decK_of (decS_len (n := 0) rfl (k1 _ _ hJ nM.1 nM.2.1))) fun H2 D2 k2 _ => by exact decK_draw (n := 3) (c := 0) rfl (by decide) (by decide)) BJ.deal (fun H1 D1 k1 pt => ?_) fun H1 D1 k1 pf => ?_
      · -- a number
        have B1 := BJ.kp D1 k1
        refine ⟨_, rfl, _, _, rfl, rfl, ⟨by decide, by decide, by decide⟩, C.d, C.l, 10 ^ 9, rfl, D1, by decide +kernel, by decide +kernel, fun r H2 r0 r1 D2 k2 => ⟨_, _, rfl, rfl, _, rfl, by show 5 ≤ sizeLine; decide, fun L5 h5 => ⟨_, rfl, C.d, C.l, 5, rfl, (B1.kp D2 k2).deal.same (Same.new h5), by decide, by decide, fun r' H3 r0' r1' D3 k3 => ?_⟩⟩⟩
        have B2 := B1.kp D2 k2
        have B3 := (B2.same (Same.new h5)).kp D3 k3
        have K3 : KpB C H H3 := (KpB.same sJ).trans ((KpB.kp k1).trans ((KpB.kp k2).trans ((KpB.same (Same.new h5)).trans (KpB.kp k3))))
        have n5 := B2.new h5
        obtain ⟨v, hv, hin⟩ := atI_in (xs := [V.int 0, V.int 1, V.int 2, V.int 9, V.int (999999999 - r)]) r0' (by show r' < 5; exact r1')
        have hv2 : ∃ n : Int, v = .int n ∧ 0 ≤ n ∧ n ≤ 999999999 := by
          have r1 : r < 1000000000 := r1
          simp only [List.mem_cons, List.not_mem_nil, or_false] at hin
          rcases hin with rfl | rfl | rfl | rfl | rfl
          · exact ⟨_, rfl, by omega, by omega⟩
          · exact ⟨_, rfl, by omega, by omega⟩
          · exact ⟨_, rfl, by omega, by omega⟩
          · exact ⟨_, rfl, by omega, by omega⟩
          · exact ⟨_, rfl, by omega, by omega⟩
        obtain ⟨n, rfl, n0, n1⟩ := hv2
        refine ⟨L5, _, _, _, rfl, rfl, SqL.of (k3 _ _ upd_same n5.1 n5.2.1), hv, ?_⟩
        refine k (some (.nu n)) g hs H3 ((Stp.refl B3 K3).le (Nat.le_refl _) (Nat.zero_le _)) (fun z => nomatch z) fun a ea => ?_
        cases ea
        exact .inr ⟨pt.1, n, rfl, n0, n1⟩
      · have B1 := BJ.kp D1 k1
        have K1 : KpB C H H1 := (KpB.same sJ).trans (KpB.kp k1)
        have hM1 := k1 _ _ hJ nM.1 nM.2.1
        have rk1 := rkJ.mono (TupK.kp BJ.deal k1)
        unfold tNext
        dsimp only
        refine decS_if (decS_and (by exact decS_len (n := 0) rfl hM1) fun H2 s2 _ => by exact decS_row rfl (rk1.mono (TupK.same s2))) (fun H2 s2 p2 => ?_) fun H2 s2 p2 => ?_
        · -- a row without things
          have hx : xs = [] := by
            have := p2.1
            rw [List.length_map] at this
            exact List.length_eq_zero_iff.mp this
          have B2 := B1.same s2
          have rk2 := rk1.mono (TupK.same s2)
          refine ⟨_, rfl, _, rfl, _, rfl, C, g, hs, κ, kv, rfl, B2, rk2, gk, hl, fun H3 B3 k3 => ?_⟩
          have rk3 := rk2.mono (B2.tk k3)
          dsimp only
          refine app_hd B3 (by omega) (h := .bind (C.W.nm g.length) (.empty κ)) (by exact rfl) (by exact mk_tup (mk_cons mk_str (mk_cons (mk_vs rfl) (mk_cons (mk_v rfl rk3) mk_nil))) le1000) fun us v H4 s4 e4 r4 => ?_
          refine ⟨_, rfl, ?_⟩
          refine k (some (.nm (C.W.nm g.length))) (g ++ [κ]) _ _ (Stp.empty (K1.trans ((KpB.same s2).trans (k3.trans (KpB.same s4)))) (B3.same s4) p2.2 (nx hx) e4 r4) (fun z => nomatch z) fun a ea => ?_
          cases ea
          exact .inl ⟨g.length, by simp, rfl⟩
        · have B2 := B1.same s2
          have hM2 := s2 _ _ hM1
          have K2 := K1.trans (KpB.same s2)
          dsimp only
          refine decS_if (by exact decS_len (n := 0) rfl hM2) (fun H3 s3 p3 => ?_) fun H3 s3 p3 => ?_
          · have hx : xs = [] := by
              rw [List.length_map] at p3
              exact List.length_eq_zero_iff.mp p3
            have nr : ¬ κ.row := fun z => p2 ⟨p3, z⟩
            have nn : κ ≠ .num := by
              rcases pf with h | h
              · exact h
              · exact absurd (by rw [hx]; rfl) h.1
            refine k none g hs H3 ((Stp.refl (B2.same s3) (K2.trans (KpB.same s3))).le (Nat.le_refl _) (Nat.zero_le _)) (fun _ => ⟨?_, nx hx⟩) fun a ea => nomatch ea
            cases κ with
            | num => exact absurd rfl nn
            | nums => exact absurd trivial nr
            | hold a b => exact ⟨a, b, rfl⟩
            | holds a b => exact absurd trivial nr
          · have B3 := B2.same s3
            have hM3 := s3 _ _ hM2
            have lx0 : 0 < xs.length := by
              rw [List.length_map] at p3
              omega
            refine ⟨_, rfl, _, rfl, _, rfl, M, _, rfl, .inl (SqL.of hM3), C.d, C.l, _, rfl, B3.deal, by rw [List.length_map]; omega, by rw [List.length_map]; omega, fun r H4 r0 r1 D4 k4 => ?_⟩
            have B4 := B3.kp D4 k4
            have hM4 := k4 _ _ hM3 nM.1 nM.2.1
            refine ⟨_, rfl, _, rfl, M, _, rfl, .inl (SqL.of hM4), C.d, C.l, _, rfl, D4, by rw [List.length_map]; omega, by rw [List.length_map]; omega, fun r' H5 r0' r1' D5 k5 => ?_⟩
            have B5 := B4.kp D5 k5
            have hM5 := k5 _ _ hM4 nM.1 nM.2.1
            refine ⟨_, _, rfl, ?_⟩
            have hm : 0 ≤ (if r' > r then r' else r) ∧ (if r' > r then r' else r) < ((xs.map fun j => V.str (C.W.nm j)).length : Int) := by
              split
              · exact ⟨r0', r1'⟩
              · exact ⟨r0, r1⟩
            obtain ⟨v, hv, hin⟩ := atI_in (xs := xs.map fun j => V.str (C.W.nm j)) hm.1 hm.2
            obtain ⟨j, hj, rfl⟩ := List.mem_map.mp hin
            refine ⟨M, _, _, _, rfl, rfl, SqL.of hM5, hv, ?_⟩
            refine k (some (.nm (C.W.nm j))) g hs H5 ((Stp.refl B5 (K2.trans ((KpB.same s3).trans ((KpB.kp k4).trans (KpB.kp k5))))).le (Nat.le_refl _) (Nat.zero_le _)) (fun z => nomatch z) fun a ea => ?_
            cases ea
            exact .inl ⟨j, mx j hj, rfl⟩
end
end Ak
namespace Ak
open PySem L2
local macro_rules | `(tactic| walk_at "no attr") => `(tactic| exact rwF_no _ _ _ (by decide +kernel) (by decide +kernel) (by decide +kernel))
/-! ### atoms of some kinds -/
abbrev st_l_all : Stmt := top 16
theorem sc_l_all : FnScope ["_law_deal_here", "_law_world", "_law_env", "_law_kinds", "_law_heads_here", "_law_found", "_law_kind"] ["_law_deal_here", "_law_world", "_law_env", "_law_kinds", "_law_heads_here"] (defScope st_l_all) := ⟨rfl, rfl, rfl, by decide +kernel, rfl, by decide +kernel, by decide +kernel⟩
abbrev sp_l_have : Sp := spHave
theorem BS.own {C : BC} {g : List Kd} {hs : List Hd} {H : Hp} {M : Addr} {xs ys : List V} (B : BS C g hs H) (n : M ≠ C.d ∧ M ≠ C.l ∧ M ≠ C.E ∧ M ≠ C.L) (hF : C.F M = none) (h : H M = some (.lst xs)) : BS C g hs (upd H M (.lst ys)) := by
  obtain ⟨us, e1, e2⟩ := B.e
  obtain ⟨ws, f1, f2⟩ := B.h
  have tk : TupK H (upd H M (.lst ys)) := tk_lst h
  exact ⟨B.ok, B.wd, fun b o e => by rw [upd_ne (fun z => by rw [z, hF] at e; cases e)]; exact B.fr _ _ e, B.no, B.deal.upd ⟨n.1, n.2.1⟩, B.ne, ⟨us, (upd_ne n.2.2.1.symm).trans e1, e2.mono tk⟩, ⟨ws, (upd_ne n.2.2.2.symm).trans f1, f2.mono tk⟩, B.good⟩
theorem BS.offF {C : BC} {g : List Kd} {hs : List Hd} {H : Hp} (B : BS C g hs H) {M : Addr} (h : H M = none) : C.F M = none := by
  cases e : C.F M with
  | none => rfl
  | some o => have := B.fr _ _ e; rw [h] at this; cases this
/-- a cell of one's own, not there ahead, may change along -/
theorem Stp.own {C : BC} {c m : Nat} {g g' : List Kd} {hs hs' : List Hd} {H H' : Hp} {M : Addr} {xs ys : List V} (a : Stp C c m g hs H g' hs' H') (B : BS C g hs H) (hM : H M = none) (h : H' M = some (.lst xs)) : Stp C c m g hs H g' hs' (upd H' M (.lst ys)) :=
  ⟨a.ht, a.bs.own (B.new hM) (B.offF hM) h, fun b o e h1 h2 h3 h4 => by rw [upd_ne (ne_of_none e hM)]; exact a.kp _ _ e h1 h2 h3 h4⟩
theorem paired_snoc {α β : Type} {F : α → β → Prop} {xs : List α} {ys : List β} {x : α} {y : β} (h : Paired F xs ys) (k : F x y) : Paired F (xs ++ [x]) (ys ++ [y]) := paired_app h (.cons k .nil)
theorem paired_len {α β : Type} {F : α → β → Prop} : ∀ {xs : List α} {ys : List β}, Paired F xs ys → xs.length = ys.length
  | _, _, .nil => rfl
  | _, _, .cons _ t => by rw [List.length_cons, List.length_cons, paired_len t]
theorem in_none : ∀ oas : List (Option Atom), inV .non (oas.map oaV) = oas.any (·.isNone)
  | [] => rfl
  | none :: r => rfl
  | some a :: r => by
    have h1 : inV .non ((some a :: r : List (Option Atom)).map oaV) = inV .non (r.map oaV) := by cases a <;> rfl
    rw [h1, in_none r]; rfl
theorem any_none {oas : List (Option Atom)} : oas.any (·.isNone) = true ↔ none ∈ oas := by
  rw [List.any_eq_true]
  constructor
  · rintro ⟨x, hx, e⟩
    cases x with
    | none => exact hx
    | some a => cases e
  · exact fun h => ⟨none, h, rfl⟩
theorem flat_oa : ∀ oas : List (Option Atom), (oas.map oaV).all flatV = true := fun oas => by
  rw [List.all_eq_true]
  intro v hv
  obtain ⟨oa, _, rfl⟩ := List.mem_map.mp hv
  cases oa with
  | none => rfl
  | some a => cases a <;> rfl
def HvO (W : WW) (g g1 : List Kd) (κ : Kd) (oa : Option Atom) : Prop := (oa = none → (∃ k q, κ = .hold k q) ∧ κ ∉ g) ∧ ∀ a, oa = some a → AtTy W g1 κ a
theorem hv_mono {C : BC} {g g1 g2 : List Kd} {hs h2 : List Hd} {c m : Nat} {H H' : Hp} (s : Stp C c m g1 hs H g2 h2 H') {κ : Kd} {oa : Option Atom} (h : HvO C.W g g1 κ oa) : HvO C.W g g2 κ oa := ⟨h.1, fun a e => s.at (h.2 a e)⟩
theorem hv_some {W : WW} {g g1 : List Kd} : ∀ {κs : List Kd} {oas : List (Option Atom)}, Paired (HvO W g g1) κs oas → none ∉ oas → ∃ as, oas = as.map some ∧ Paired (AtTy W g1) κs as
  | _, _, .nil, _ => ⟨[], rfl, .nil⟩
  | _, _, .cons (b := oa) h t, n => by
    obtain ⟨as, e, p⟩ := hv_some t fun z => n (List.mem_cons_of_mem _ z)
    cases oa with
    | none => exact absurd (List.mem_cons_self ..) n
    | some a => exact ⟨a :: as, by rw [e]; rfl, .cons (h.2 a rfl) p⟩
theorem hv_none {W : WW} {g g1 : List Kd} : ∀ {κs : List Kd} {oas : List (Option Atom)}, Paired (HvO W g g1) κs oas → none ∈ oas → ∃ κ ∈ κs, (∃ k q, κ = .hold k q) ∧ κ ∉ g
  | _, _, .nil, n => nomatch n
  | _, _, .cons (a := κ) (b := oa) h t, n => by
    rcases List.mem_cons.mp n with e | n
    · exact ⟨κ, List.mem_cons_self .., h.1 e.symm⟩
    · obtain ⟨κ', hm, z⟩ := hv_none t n
      exact ⟨κ', List.mem_cons_of_mem _ hm, z⟩
theorem oa_map (as : List Atom) : (as.map some).map oaV = as.map Atom.v := by
  rw [List.map_map]; rfl
def spAll : Sp := fun vs H Q _ => ∃ (C : BC) (g : List Kd) (hs : List Hd) (κs : List Kd) (X : Addr) (us : List V), vs = [.ref C.d, .ref C.w, .ref C.E, .ref X, .ref C.L] ∧ BS C g hs H ∧ H X = some (.lst us) ∧ Reps H (κs.map Kd.d) us ∧ (X ≠ C.l ∧ X ≠ C.E ∧ X ≠ C.L) ∧ (∀ κ ∈ κs, C.W.good κ) ∧ κs.length ≤ 5 ∧ g.length + κs.length ≤ 82 ∧ hs.length ≤ 800 ∧
  (∀ (g' : List Kd) (hs' : List Hd) (H' : Hp), Stp C 0 κs.length g hs H g' hs' H' → (∃ κ ∈ κs, (∃ k q, κ = .hold k q) ∧ κ ∉ g) → Q .non H') ∧
  ∀ (as : List Atom) (g' : List Kd) (hs' : List Hd) (p : Addr) (H' : Hp), Stp C 0 κs.length g hs H g' hs' H' → Paired (AtTy C.W g') κs as → H' p = some (.tup (as.map Atom.v)) → Q (.ref p) H'
section
variable {P : Program} {w : World} {K : PySem.W.Frag} {mg : Str → Option Value} {base : Heap} {f1 f2 : Addr} {d1 d2 : FuncData}
theorem ok_l_all {f : Addr} {fd : FuncData} (D : Fn K mg "_law_all" st_l_all ["_law_deal_here", "_law_world", "_law_env", "_law_kinds", "_law_heads_here"] f fd) (T : BltB mg) (D_l_have : Fn K mg "_law_have" st_l_have ["_law_deal_here", "_law_world", "_law_env", "_law_kind", "_law_heads_here"] f1 d1) (G_l_have : FnOk P w K mg base CX0 2 f1 d1 ["_law_deal_here", "_law_world", "_law_env", "_law_kind", "_law_heads_here"] spHave) : FnOk P w K mg base CX0 3 f fd ["_law_deal_here", "_law_world", "_law_env", "_law_kinds", "_law_heads_here"] spAll := by
  refine D.F.ok sc_l_all (fun vs H Q E h => ?_) (fun cdv A outer s H vs Q E hr h => ?_)
  · obtain ⟨C, g, hs, κs, X, us, rfl, _⟩ := h
    rfl
  · obtain ⟨C, g, hs, κs, X, us, rfl, B, hX, rX, nX, gk, hk5, hgl, hhl, kN, k⟩ := h
    refine ⟨_, (pss_cons (ps_setLc (i := 5) (own := [("_law_kind", 6)]) (g := gName 6) (tt := tYes) (te := (tCall sp_l_have [] E0 (tCons (tVar 0) (tCons (tVar 1) (tCons (tVar 2) (tCons (tVar 6) (tCons (tVar 4) tNil))))))) rfl sc_l_all.nd rfl rfl (sw_true rfl rfl rfl (by decide +kernel)) (pi_list (pv 3)) (blkOk_by (own := [("_law_kind", 6)]) (N := ["_law_deal_here", "_law_world", "_law_env", "_law_kinds", "_law_heads_here", "_law_found", "_law_kind"]) (sc := defScope st_l_all) (by decide +kernel)) (fun _ _ _ _ _ => (pg_name (i := 6) sc_l_all.nd rfl (Or.inl rfl))) (fun _ _ _ _ _ => pts_nil) (fun _ _ _ _ _ => (pe_call G_l_have (hr.mono (by decide)) rfl D_l_have.mg D_l_have.kp D_l_have.b .nil pass0 (pa_cons (pv 0) (pa_cons (pv 1) (pa_cons (pv 2) (pa_cons (pv 6) (pa_cons (pv 4) pa_nil))))))))
      (pss_cons (ps_if (pt_cmpR op_in_seq pe_non (pv 5) (by rfl)) (pss_one (ps_ret pe_non)) pss_nil)
      (pss_one (ps_ret (pe_callTy call_tuple_of (by rfl) T.tuple (by decide +kernel) (pa_cons (pv 5) pa_nil)))))), ?_⟩
    have lu := Reps.len rX
    rw [List.length_map] at lu
    have nXd : X ≠ C.d := by
      obtain ⟨_, _, _, _, _, _, _, h1, _⟩ := B.deal
      exact ne_of hX h1 (fun z => nomatch z)
    have hXJ : ∀ {J}, KpB C H J → J X = some (.lst us) := fun kp => kp _ _ hX nXd nX.1 nX.2.1 nX.2.2
    refine ⟨_, rfl, X, rfl, ⟨_, SqL.of hX⟩, fun M hM => lc_it (walk_list (xs := us)) (fun i J => ∃ (g1 : List Kd) (h1 : List Hd) (oas : List (Option Atom)), Stp C 0 i g hs H g1 h1 J ∧ J M = some (.lst (oas.map oaV)) ∧ Paired (HvO C.W g g1) (κs.take i) oas) ⟨g, hs, [], (Stp.refl (B.same (Same.new hM)) (KpB.same (Same.new hM))), upd_same, .nil⟩ (fun i J _ z => ?_) (fun i x J J1 hi z yy => ?_) fun J z => ?_⟩
    · obtain ⟨g1, h1, oas, st, _⟩ := z
      exact SqL.of (hXJ st.kp)
    · obtain ⟨rfl, ex⟩ := yy
      obtain ⟨g1, h1, oas, st, hM1, pr⟩ := z
      rw [lu] at hi
      have eg : κs[i]? = some κs[i] := List.getElem?_eq_getElem hi
      have hm := List.mem_of_getElem? eg
      generalize κs[i] = κ at eg hm
      obtain ⟨y, ey, ry⟩ := Reps.get rX (j := i) (d := κ.d) (by rw [List.getElem?_map, eg]; rfl)
      obtain rfl : y = x := by rw [ey] at ex; exact Option.some.inj ex
      have ln := st.len
      have lo : oas.length ≤ 5 := by
        have := paired_len pr
        rw [List.length_take] at this; omega
      have nM := B.new hM
      refine ⟨rfl, lc_yes ?_⟩
      refine ⟨_, rfl, _, rfl, _, rfl, _, rfl, _, rfl, C, g1, h1, κ, y, rfl, st.bs, ry.mono (B.tk st.kp), gk _ hm, by omega, by omega, fun oa g2 h2 J2 st2 c1 c2 => ?_⟩
      have hM2 := st2.kp _ _ hM1 nM.1 nM.2.1 nM.2.2.1 nM.2.2.2
      refine ⟨_, hM2, small1000 (by rw [List.length_map]; omega), g2, h2, oas ++ [oa], ((st.trans st2).le (Nat.le_refl _) (Nat.le_refl _)).own B hM hM2, by rw [upd_same, List.map_append]; rfl, ?_⟩
      · rw [List.take_add_one, eg]
        exact paired_snoc (paired_mono (fun _ _ z => hv_mono st2 z) pr) ⟨fun e => ⟨(c1 e).1, fun z => (c1 e).2 (by
          obtain ⟨x, rfl⟩ := st.ext
          exact List.mem_append_left _ z)⟩, c2⟩
    · obtain ⟨g1, h1, oas, st, hM1, pr⟩ := z
      rw [lu, List.take_length] at pr
      rw [lu] at st
      unfold gName
      dsimp only
      have lo := paired_len pr
      have nM := B.new hM
      refine ⟨_, rfl, M, _, rfl, .inl (SqL.of hM1), rfl, flat_oa oas, _, rfl, ?_⟩
      show (if (inV .non (oas.map oaV)) = true then _ else _)
      rw [in_none]
      by_cases c : none ∈ oas
      · rw [any_none.mpr c]
        exact iteT (kN _ _ _ st (hv_none pr c))
      · rw [Bool.eq_false_iff.mpr fun z => c (any_none.mp z)]
        refine iteF ?_
        obtain ⟨as, rfl, pa⟩ := hv_some pr c
        rw [oa_map] at hM1
        refine ⟨_, rfl, M, _, rfl, .inl ⟨SqL.of hM1, fun p hp => ?_⟩⟩
        exact k as g1 h1 p _ (st.trans (Stp.refl (st.bs.same (Same.new hp)) (KpB.same (Same.new hp)))) pa upd_same
end
end Ak
namespace Ak
open PySem L2
local macro_rules | `(tactic| walk_at "no attr") => `(tactic| exact rwF_no _ _ _ (by decide +kernel) (by decide +kernel) (by decide +kernel))
/-! ### a selection of rows; going on with a hold -/
abbrev st_l_go : Stmt := top 18
theorem sc_l_go : FnScope ["_law_deal_here", "_law_world", "_law_env", "_law_heads_here", "_law_h", "_law_kind", "_law_keeper", "_law_back", "_law_a", "_law_note", "_law_one", "_law_ask"] ["_law_deal_here", "_law_world", "_law_env", "_law_heads_here", "_law_h", "_law_kind"] (defScope st_l_go) := ⟨rfl, rfl, rfl, by decide +kernel, rfl, by decide +kernel, by decide +kernel⟩
theorem paired_take {α β : Type} {F : α → β → Prop} : ∀ {xs : List α} {ys : List β} (i : Nat), Paired F xs ys → Paired F (xs.take i) (ys.take i)
  | _, _, 0, _ => .nil
  | _, _, _ + 1, .nil => .nil
  | _, _, i + 1, .cons a t => .cons a (paired_take i t)
theorem paired_get {α β : Type} {F : α → β → Prop} : ∀ {xs : List α} {ys : List β} {i : Nat} {y : β}, Paired F xs ys → ys[i]? = some y → ∃ x, xs[i]? = some x ∧ F x y
  | _, _, i, _, .nil, e => by simp at e
  | _, _, 0, y, .cons a _, e => ⟨_, rfl, by
      have e : _ = y := Option.some.inj e
      rw [← e]; exact a⟩
  | _, _, i + 1, _, .cons _ t, e => by
    obtain ⟨x, e1, h⟩ := paired_get t (i := i) (by simpa using e)
    exact ⟨x, by simpa using e1, h⟩
theorem le_of_ble {n m : Nat} (h : Nat.ble n m = true := by rfl) : n ≤ m := Nat.le_of_ble_eq_true h
theorem nodup_key {α β : Type} {f : α → β} {l : List α} (h : (l.map f).Nodup) {x y : α} (hx : x ∈ l) (hy : y ∈ l) (e : f x = f y) : x = y := by
  unfold List.Nodup at h
  rw [List.pairwise_map] at h
  induction l with
  | nil => cases hx
  | cons z r ih =>
    rw [List.pairwise_cons] at h
    rcases List.mem_cons.mp hx with rfl | hx' <;> rcases List.mem_cons.mp hy with rfl | hy'
    · rfl
    · exact absurd e (h.1 _ hy')
    · exact absurd e.symm (h.1 _ hx')
    · exact ih h.2 hx' hy'
/-- what is taken of some rows by a test that leaves all as it is -/
theorem sel_it {α β : Type} {us : List V} {xs : List α} {Jt : It} {G : Hp → Prop} (wk : Walk Jt us.length G (YAt us)) {R : α → V → Prop} (pr : Paired R xs us) (q : α → Bool) (y : α → β) {RR : Hp → β → V → Prop} (hm : ∀ {J J' b v}, TupK J J' → RR J b v → RR J' b v) (hl : xs.length ≤ 1000)
    {g : TG} {tt : TT} {te : TE} {vs : List Nat} {σ : L2.St} {H : Hp} {D : Addr} {Qd : Hp → Prop} (hG : ∀ J, Same H J → G J) (hD : H D = none)
    (step : ∀ (x : α) (v : V) (J : Hp), x ∈ xs → R x v → Same H J → ∀ (A : V → Hp → Prop) (B : Hp → Prop), (q x = true → ∀ u J', Same J J' → RR J' (y x) u → A u J') → (q x = false → ∀ J', Same J J' → B J') → g v (wipe σ vs) J fun σ2 H2 => wipe σ2 vs = wipe σ vs ∧ tt σ2 H2 fun b H3 => if b = true then te σ2 H3 A else B H3)
    (fin : ∀ (J : Hp) (sel : List V), J D = some (.lst sel) → Paired (RR J) ((xs.filter q).map y) sel → Same H J → Qd J) :
    ∃ W : Nat → Nat → Hp → Prop, (∃ m, W 0 m (upd H D (HO.lst []))) ∧ ∀ (i m : Nat) (H : Hp), W i m H → Jt.stop i H ∧ Qd H ∨ Jt.go i H ∧ ∃ Nx : Hp → Prop, (∀ (H' : Hp), Nx H' → ∃ m', m' < m ∧ W (i + 1) m' H') ∧ ∀ (x : V) (H' : Hp), Jt.yld i H x H' → g x (wipe σ vs) H' fun σ2 H2 => wipe σ2 vs = wipe σ vs ∧ tt σ2 H2 fun b H3 => if b = true then te σ2 H3 fun y H4 => ∃ acc, H4 D = some (HO.lst acc) ∧ acc.length < sizeLine ∧ Nx (upd H4 D (HO.lst (acc ++ [y]))) else Nx H3 := by
  have lx := paired_len pr
  refine L2.lc_it wk (fun i J => Same H J ∧ ∃ sel, J D = some (.lst sel) ∧ Paired (RR J) (((xs.take i).filter q).map y) sel) ⟨Same.new hD, [], upd_same, .nil⟩ (fun i J _ z => hG J z.1) (fun i v J J1 hi z yy => ?_) fun J z => ?_
  · obtain ⟨rfl, ex⟩ := yy
    obtain ⟨sJ, sel, hJ, ps⟩ := z
    obtain ⟨x, ex2, hR⟩ := paired_get pr ex
    have hx := List.mem_of_getElem? ex2
    have ls : sel.length ≤ 1000 := by
      rw [← paired_len ps, List.length_map]
      exact Nat.le_trans (List.length_filter_le _ _) (by rw [List.length_take]; omega)
    have e3 : ((xs.take (i + 1)).filter q).map y = ((xs.take i).filter q).map y ++ if q x = true then [y x] else [] := by
      rw [List.take_add_one, ex2, List.filter_append, List.map_append]
      by_cases h : q x = true
      · rw [if_pos h]; simp [h]
      · rw [if_neg h]; simp [h]
    refine step x v J1 hx hR sJ _ _ (fun c u J2 s2 r2 => ?_) fun c J2 s2 => ?_
    · have hJ2 := s2 _ _ hJ
      refine ⟨sel, hJ2, small1000 (by omega), fun b o e => ?_, sel ++ [u], upd_same, ?_⟩
      · rw [upd_ne (ne_of_none e hD)]; exact s2 _ _ (sJ _ _ e)
      · have tk : TupK J2 (upd J2 D (.lst (sel ++ [u]))) := tk_lst hJ2
        rw [e3, if_pos c]
        exact paired_snoc (paired_mono (fun _ _ z => hm ((TupK.same s2).trans tk) z) ps) (hm tk r2)
    · refine ⟨sJ.trans s2, sel, s2 _ _ hJ, ?_⟩
      rw [e3, if_neg (by rw [c]; decide), List.append_nil]
      exact paired_mono (fun _ _ z => hm (TupK.same s2) z) ps
  · obtain ⟨sJ, sel, hJ, ps⟩ := z
    rw [← lx, List.take_length] at ps
    exact fin J sel hJ ps sJ
theorem reps_paired {α : Type} {dd : α → D} {H : Hp} : ∀ {xs : List α} {us : List V}, Reps H (xs.map dd) us → Paired (fun x v => Rep H (dd x) v) xs us
  | [], _, h => by
    have e : _ = [] := h
    rw [e]; exact .nil
  | x :: r, _, ⟨v, t, e, h1, h2⟩ => by rw [e]; exact .cons h1 (reps_paired h2)
theorem paired_reps {α : Type} {dd : α → D} {H : Hp} : ∀ {xs : List α} {us : List V}, Paired (fun x v => Rep H (dd x) v) xs us → Reps H (xs.map dd) us
  | _, _, .nil => rfl
  | _, _, .cons a t => Reps.cons a (paired_reps t)
theorem AW.at {H : Hp} {a : AW} {v : V} (h : Rep H a.d v) : ∃ (p : Addr) (va vb : V), v = .ref p ∧ H p = some (.tup [.str a.nm, va, vb]) ∧ Rep H a.of.d va ∧ Rep H a.gives.d vb := by
  obtain ⟨p, vs, rfl, hp, v0, _, rfl, e0, va, _, rfl, ra, vb, r, rfl, rb, er⟩ := h
  cases (show v0 = _ from e0)
  cases (show r = [] from er)
  exact ⟨p, va, vb, rfl, hp, ra, rb⟩
theorem filter_first {α : Type} {q : α → Bool} {xs : List α} {x : α} (h : x ∈ xs) (c : q x = true) : ∃ y r, xs.filter q = y :: r ∧ y ∈ xs ∧ q y = true := by
  have : x ∈ xs.filter q := List.mem_filter.mpr ⟨h, c⟩
  cases e : xs.filter q with
  | nil => rw [e] at this; cases this
  | cons y r =>
    have hy : y ∈ xs.filter q := by rw [e]; exact List.mem_cons_self ..
    exact ⟨y, r, rfl, (List.mem_filter.mp hy).1, (List.mem_filter.mp hy).2⟩
theorem plain_no {κ : Kd} (h : κ.plain) : ¬ ∃ k q, κ = .hold k q := by
  rintro ⟨k, q, rfl⟩; exact h
theorem note_no {W : WW} (ok : W.Ok) {k : KW} (hk : k ∈ W.ks) : ¬ ∃ a b, k.note = .hold a b := by
  rintro ⟨a, b, e⟩
  rcases (ok.kp k hk).1 with h | ⟨q, _, e2⟩
  · rw [e] at h; exact h
  · rw [e] at e2; cases e2
def spGo : Sp := fun vs H Q _ => ∃ (C : BC) (g : List Kd) (hs : List Hd) (k q : Str) (h : Str) (kv : V), vs = [.ref C.d, .ref C.w, .ref C.E, .ref C.L, .str h, kv] ∧ BS C g hs H ∧ Rep H (Kd.hold k q).d kv ∧ C.W.pair k q ∧ AtTy C.W g (.hold k q) (.nm h) ∧ g.length ≤ 79 ∧ hs.length ≤ 750 ∧
  ∀ (kw : KW) (g0 : List Kd) (hs' : List Hd) (H' : Hp), kw ∈ C.W.ks → kw.nm = k → Stp C 1 3 g hs H (g0 ++ [kw.gives]) hs' H' → Q .non H'
section
variable {P : Program} {w : World} {K : PySem.W.Frag} {mg : Str → Option Value} {base : Heap} {f1 f2 : Addr} {d1 d2 : FuncData}
theorem ok_l_go {f : Addr} {fd : FuncData} (D : Fn K mg "_law_go" st_l_go ["_law_deal_here", "_law_world", "_law_env", "_law_heads_here", "_law_h", "_law_kind"] f fd) (T : BltB mg) (D_l_all : Fn K mg "_law_all" st_l_all ["_law_deal_here", "_law_world", "_law_env", "_law_kinds", "_law_heads_here"] f1 d1) (G_l_all : FnOk P w K mg base CX0 3 f1 d1 ["_law_deal_here", "_law_world", "_law_env", "_law_kinds", "_law_heads_here"] spAll)
    (D_l_bound : Fn K mg "_law_bound" st_l_bound ["_law_world", "_law_env", "_law_kind"] f2 d2) (G_l_bound : FnOk P w K mg base CX0 1 f2 d2 ["_law_world", "_law_env", "_law_kind"] spBound) : FnOk P w K mg base CX0 4 f fd ["_law_deal_here", "_law_world", "_law_env", "_law_heads_here", "_law_h", "_law_kind"] spGo := by
  refine D.F.ok sc_l_go (fun vs H Q E h => ?_) (fun cdv A outer s H vs Q E hr h => ?_)
  · obtain ⟨C, g, hs, k, q, h, kv, rfl, _⟩ := h
    rfl
  · obtain ⟨C, g, hs, kn, q, h, kv, rfl, B, rk, pr, ah, hgl, hhl, k⟩ := h
    have hu := hu_of hr
    obtain ⟨pk0, rfl, hkd⟩ := kd_at rk
    obtain ⟨pw, pa, pk, pf, ua, uk, uf, h1, h2, h3, h4, h5, ra, rks, rfs⟩ := B.hw
    refine ⟨_, (pss_cons (ps_set (i := 6) sc_l_go.nd rfl (Or.inl rfl) (pe_ix ix_list (pe_lc (own := [("_law_one", 10)]) (g := gName 10) (tt := tTest (tOp rEq (tOp (rIxT K) (tVar 10) (tC (V.int 0))) (tOp (rIxT K) (tVar 5) (tC (V.int 1))))) (te := (tVar 10)) rfl sc_l_go.nd (pi_list (pe_dget hu (pv 1) pe_str (fun _ _ => rfl))) (blkOk_by (own := [("_law_one", 10)]) (N := ["_law_deal_here", "_law_world", "_law_env", "_law_heads_here", "_law_h", "_law_kind", "_law_keeper", "_law_back", "_law_a", "_law_note", "_law_one", "_law_ask"]) (sc := defScope st_l_go) (by decide +kernel)) (fun _ _ _ _ _ => (pg_name (i := 10) sc_l_go.nd rfl (Or.inl rfl))) (fun _ _ _ _ _ => (pts_one (pt_cmpR op_eq (pe_ix ix_tup (pv 10) pe_int (fun _ _ => rfl)) (pe_ix ix_tup (pv 5) pe_int (fun _ _ => rfl)) (nomark _)))) (fun _ _ _ _ _ => (pv 10))) pe_int (fun _ _ => rfl)))
      (pss_cons (ps_set (i := 7) sc_l_go.nd rfl (Or.inl rfl) (pe_ix ix_list (pe_lc (own := [("_law_ask", 11)]) (g := gName 11) (tt := tTest (tOp rEq (tOp (rIxT K) (tVar 11) (tC (V.int 0))) (tOp (rIxT K) (tVar 5) (tC (V.int 2))))) (te := (tOp (rIxT K) (tVar 11) (tC (V.int 2)))) rfl sc_l_go.nd (pi_list (pe_dget hu (pv 1) pe_str (fun _ _ => rfl))) (blkOk_by (own := [("_law_ask", 11)]) (N := ["_law_deal_here", "_law_world", "_law_env", "_law_heads_here", "_law_h", "_law_kind", "_law_keeper", "_law_back", "_law_a", "_law_note", "_law_one", "_law_ask"]) (sc := defScope st_l_go) (by decide +kernel)) (fun _ _ _ _ _ => (pg_name (i := 11) sc_l_go.nd rfl (Or.inl rfl))) (fun _ _ _ _ _ => (pts_one (pt_cmpR op_eq (pe_ix ix_tup (pv 11) pe_int (fun _ _ => rfl)) (pe_ix ix_tup (pv 5) pe_int (fun _ _ => rfl)) (nomark _)))) (fun _ _ _ _ _ => (pe_ix ix_tup (pv 11) pe_int (fun _ _ => rfl)))) pe_int (fun _ _ => rfl)))
      (pss_cons (ps_asg (pe_call G_l_all (hr.mono (by decide)) rfl D_l_all.mg D_l_all.kp D_l_all.b .nil pass0 (pa_cons (pv 0) (pa_cons (pv 1) (pa_cons (pv 2) (pa_cons (pe_lst (pa_cons (pv 7) (pa_cons (pe_ix ix_tup (pv 6) pe_int (fun _ _ => rfl)) pa_nil))) (pa_cons (pv 3) pa_nil)))))) (pg_tup (by rfl) (pgs_cons (pg_name (i := 8) sc_l_go.nd rfl (Or.inl rfl)) (pgs_cons (pg_name (i := 9) sc_l_go.nd rfl (Or.inl rfl)) pgs_nil))))
      (pss_one (ps_expr (pe_bm PySem.F.plainAttrs_list PySem.F.slot_list_append PySem.F.type_list_append mt_append (pv 3) (pa_cons (pe_tup (pa_cons pe_str (pa_cons (pe_call G_l_bound (hr.mono (by decide)) rfl D_l_bound.mg D_l_bound.kp D_l_bound.b .nil pass0 (pa_cons (pv 1) (pa_cons (pv 2) (pa_cons (pe_ix ix_tup (pv 6) pe_int (fun _ _ => rfl)) pa_nil)))) (pa_cons (pv 4) (pa_cons (pv 8) (pa_cons (pv 9) pa_nil)))))) pa_nil))))))), ?_⟩
    refine ⟨_, rfl, C.w, .ref pk, rfl, w_keepers h1, pk, rfl, ⟨_, SqL.of h4⟩, fun M hM => sel_it walk_list rks (fun kw => decide (kw.nm = kn)) id (RR := fun _ kw v => KwAt H kw v) (fun _ z => z) (by have := B.ok.kl; omega) (fun J s => SqL.of (s _ _ h4)) hM (fun kw v J _ hv sJ A B c1 c2 => ?_) fun J sel hJ ps sJ => ?_⟩
    · have hv' := hv
      obtain ⟨p, hh, va, vb, vc, rfl, hp, _⟩ := hv'
      refine ⟨rfl, ?_⟩
      refine ⟨_, rfl, p, _, 0, _, rfl, rfl, SqT.of (sJ _ _ hp), at0 _ _, _, rfl, pk0, _, 1, _, rfl, rfl, SqT.of (sJ _ _ hkd), at_nat _ 1 rfl, rfl, _, rfl, ite2 (fun c => ?_) fun c => ?_⟩
      · exact ⟨_, rfl, c1 (decide_eq_true (V.str.inj (of_decide_eq_true c))) _ J (Same.refl J) hv⟩
      · exact c2 (decide_eq_false fun z => c (decide_eq_true (by rw [z]))) J (Same.refl J)
    · obtain ⟨kw0, hk0, en0, hq0⟩ := pr
      obtain ⟨kw, rest, ef, hk, ck⟩ := filter_first (q := fun kw : KW => decide (kw.nm = kn)) hk0 (decide_eq_true en0)
      have ck := of_decide_eq_true ck
      have hq : q ∈ kw.heard := by
        have : kw = kw0 := nodup_key B.ok.kn hk hk0 (ck.trans en0.symm)
        rw [this]; exact hq0
      rw [ef] at ps
      obtain ⟨v, t, rfl, hv⟩ : ∃ v t, sel = v :: t ∧ KwAt H kw v := by
        cases ps with
        | cons a b => exact ⟨_, _, rfl, a⟩
      refine ⟨M, _, 0, v, rfl, rfl, SqL.of hJ, at0 _ _, ?_⟩
      refine ⟨_, rfl, C.w, .ref pa, rfl, w_asks (sJ _ _ h1), pa, rfl, ⟨_, SqL.of (sJ _ _ h3)⟩, fun M2 hM2 => sel_it walk_list (reps_paired ra) (fun aw => decide (aw.nm = q)) (fun aw => aw.gives) (RR := fun J κ v => Rep J κ.d v) (fun tk z => z.mono tk) (by have := B.ok.al; omega) (fun J2 s => SqL.of (s _ _ (sJ _ _ h3))) hM2 (fun aw v2 J2 _ hv2 sJ2 A B2 c1 c2 => ?_) fun J2 sel2 hJ2 ps2 sJ2 => ?_⟩
      · obtain ⟨p, va, vb, rfl, hp, _, rb⟩ := AW.at hv2
        have s0 := sJ.trans sJ2
        refine ⟨rfl, ?_⟩
        refine ⟨_, rfl, p, _, 0, _, rfl, rfl, SqT.of (s0 _ _ hp), at0 _ _, _, rfl, pk0, _, 2, _, rfl, rfl, SqT.of (s0 _ _ hkd), at_nat _ 2 rfl, rfl, _, rfl, ite2 (fun c => ?_) fun c => ?_⟩
        · exact ⟨_, rfl, p, _, 2, _, rfl, rfl, SqT.of (s0 _ _ hp), at_nat _ 2 rfl, c1 (decide_eq_true (V.str.inj (of_decide_eq_true c))) _ J2 (Same.refl J2) (rb.mono (TupK.same s0))⟩
        · exact c2 (decide_eq_false fun z => c (decide_eq_true (by rw [z]))) J2 (Same.refl J2)
      · obtain ⟨aw0, ha0, ea0⟩ := (B.ok.kh kw hk).2.2 q hq
        obtain ⟨aw, rest2, ef2, ha, ca⟩ := filter_first (q := fun aw : AW => decide (aw.nm = q)) ha0 (decide_eq_true ea0)
        have ca := of_decide_eq_true ca
        rw [ef2] at ps2
        obtain ⟨vb, t2, rfl, rvb⟩ : ∃ v t, sel2 = v :: t ∧ Rep J2 aw.gives.d v := by
          cases ps2 with
          | cons a b => exact ⟨_, _, rfl, a⟩
        have s02 := sJ.trans sJ2
        have hv2 := hv.same s02
        obtain ⟨p, hh, va, vt, vg, rfl, hp, rva, rvt, rvg, _⟩ := hv2
        refine ⟨M2, _, 0, vb, rfl, rfl, SqL.of hJ2, at0 _ _, ?_⟩
        refine ⟨_, rfl, _, rfl, _, rfl, _, rfl, _, rfl, p, _, 1, va, rfl, rfl, SqT.of hp, at_nat _ 1 rfl, by show 2 ≤ sizeLine; decide, fun X hX => ⟨_, rfl, C, g, hs, [aw.gives, kw.note], X, [vb, va], rfl, ?_⟩⟩
        have sX := Same.new (o := .lst [vb, va]) hX
        have s3 := s02.trans sX
        have BX := B.same s3
        have nX := (B.same s02).new hX
        refine ⟨BX, upd_same, Reps.cons (rvb.mono (TupK.same sX)) (Reps.cons (rva.mono (TupK.same sX)) rfl), ⟨nX.2.1, nX.2.2.1, nX.2.2.2⟩, fun κ hκ => ?_, le_of_ble, by show _ + 2 ≤ 82; omega, by omega, fun g' hs' H' st hno => ?_, fun as g' hs' p2 H' st pas hp2 => ?_⟩
        · simp only [List.mem_cons, List.not_mem_nil, or_false] at hκ
          rcases hκ with rfl | rfl
          · exact plain_good (B.ok.ap aw ha).2
          · exact B.ok.note hk
        · exfalso
          obtain ⟨κ, hκ, hz, _⟩ := hno
          simp only [List.mem_cons, List.not_mem_nil, or_false] at hκ
          rcases hκ with rfl | rfl
          · exact plain_no (B.ok.ap aw ha).2 hz
          · exact note_no B.ok hk hz
        · cases pas with
          | cons t1 pas => cases pas with
            | cons t2 pas => cases pas with
              | nil =>
                rename_i a n
                have hp2 : H' p2 = some (.tup [a.v, n.v]) := hp2
                refine ⟨p2, _, rfl, SqT.of hp2, rfl, _, _, rfl, _, _, rfl, rfl, ?_⟩
                obtain ⟨us, eL, lL⟩ := st.bs.hl
                have ln := st.len
                have tk := (TupK.same sX).trans (BX.tk st.kp)
                have hgv := plain_good (W := C.W) (B.ok.kp kw hk).2.2
                refine ⟨_, rfl, .inl ⟨rfl, _, SqL.of eL⟩, _, rfl, _, rfl, _, rfl, p, _, 3, vg, rfl, rfl, SqT.of (tk _ _ hp), at_nat _ 3 rfl, C, g', hs', kw.gives, vg, rfl, st.bs, rvg.mono tk, hgv, by have : [aw.gives, kw.note].length = 2 := rfl; omega, fun H2 B2 k2 => ⟨_, rfl, _, rfl, _, rfl, by show 5 ≤ sizeLine; decide, fun t ht => ?_⟩⟩
                obtain ⟨us2, eL2, lL2⟩ := B2.hl
                have st' := Same.new (o := .tup [V.str ("go" : Str), V.str (C.W.nm g'.length), V.str h, a.v, n.v]) ht
                have rt := Rep.new (ds := [.s "go", .s (C.W.nm g'.length), (Atom.nm h).d, a.d, n.d]) (vs := [V.str ("go" : Str), V.str (C.W.nm g'.length), V.str h, a.v, n.v]) ht (Reps.cons rfl (Reps.cons rfl (Reps.cons rfl (Reps.cons a.rep (Reps.cons n.rep rfl)))))
                refine ⟨C.L, us2, _, rfl, rfl, st' _ _ eL2, small1000 (by omega), ?_⟩
                have m1 : MTy C.W g' kw.gives (.go (.nm h) a n) := ⟨kw, hk, aw, ha, rfl, by rw [ca]; exact hq, by rw [ck, ca]; exact st.at ah, t1, t2⟩
                have sb := Stp.bind (k2.trans (KpB.same st')) (B2.same st') m1 (st' _ _ eL2) rt
                have s0 : Stp C 0 0 g hs H g hs (upd J2 X (.lst [vb, va])) := Stp.refl BX (KpB.same s3)
                exact k kw g' _ _ hk ck (((s0.trans st).trans sb).le (by decide) (by show 0 + 2 + 1 ≤ 3; decide))
end
end Ak
namespace Ak
open PySem L2
local macro_rules | `(tactic| walk_at "no attr") => `(tactic| exact rwF_no _ _ _ (by decide +kernel) (by decide +kernel) (by decide +kernel))
set_option maxHeartbeats 2000000
/-! ### a call or a keep -/
abbrev st_l_call_piece : Stmt := top 17
theorem sc_l_call_piece : FnScope ["_law_deal_here", "_law_world", "_law_env", "_law_heads_here", "_law_later", "_law_functions", "_law_f", "_law_kinds", "_law_kind", "_law_keeper", "_law_some", "_law_args", "_law_x"] ["_law_deal_here", "_law_world", "_law_env", "_law_heads_here", "_law_later"] (defScope st_l_call_piece) := ⟨rfl, rfl, rfl, by decide +kernel, rfl, by decide +kernel, by decide +kernel⟩
theorem gN {i : Nat} {v : V} {σ : L2.St} {H : Hp} {Q : L2.St → Hp → Prop} (h : Q (σ.set i (some v)) H) : gName i v σ H Q := h
theorem cutV_from {xs : List V} (n : Nat) : cutV xs (some (n : Int)) none = xs.drop n := by
  unfold cutV
  rw [HT.sIx_nat, HT.sIx_none]
  by_cases h : n ≤ xs.length
  · rw [Nat.min_eq_left h, List.take_of_length_le (by rw [List.length_drop]; omega)]
  · rw [Nat.min_eq_right (by omega), List.drop_eq_nil_of_le (Nat.le_refl _), List.take_nil, List.drop_eq_nil_of_le (by omega)]
theorem paired_drop {α β : Type} {F : α → β → Prop} : ∀ {xs : List α} {ys : List β} (i : Nat), Paired F xs ys → Paired F (xs.drop i) (ys.drop i)
  | _, _, 0, h => h
  | _, _, _ + 1, .nil => .nil
  | _, _, i + 1, .cons _ t => paired_drop i t
theorem paired_mem {α β : Type} {F : α → β → Prop} : ∀ {xs : List α} {ys : List β} {y : β}, Paired F xs ys → y ∈ ys → ∃ x ∈ xs, F x y
  | _, _, _, .nil, h => nomatch h
  | _, _, y, .cons (a := x) a t, h => by
    rcases List.mem_cons.mp h with rfl | h
    · exact ⟨x, List.mem_cons_self .., a⟩
    · obtain ⟨x, hx, z⟩ := paired_mem t h
      exact ⟨x, List.mem_cons_of_mem _ hx, z⟩
theorem args_rep {H : Hp} : ∀ as : List Atom, Reps H (as.map Atom.d) (as.map Atom.v)
  | [] => rfl
  | a :: r => Reps.cons a.rep (args_rep r)
def spCallP : Sp := fun vs H Q _ => ∃ (C : BC) (g : List Kd) (hs : List Hd) (lt : Nat), vs = [.ref C.d, .ref C.w, .ref C.E, .ref C.L, .int (lt : Int)] ∧ BS C g hs H ∧ g.length ≤ 76 ∧ hs.length ≤ 750 ∧
  ∀ (g' : List Kd) (hs' : List Hd) (H' : Hp), Stp C 1 6 g hs H g' hs' H' → Q .non H'
section
variable {P : Program} {w : World} {K : PySem.W.Frag} {mg : Str → Option Value} {base : Heap} {f1 f2 f3 : Addr} {d1 d2 d3 : FuncData}
theorem ok_l_call_piece {f : Addr} {fd : FuncData} (D : Fn K mg "_law_call_piece" st_l_call_piece ["_law_deal_here", "_law_world", "_law_env", "_law_heads_here", "_law_later"] f fd) (T : BltB mg) (D_l_draw : Fn K mg "_law_draw" st_l_draw ["_law_deal_here", "_law_many"] f3 d3) (G_l_draw : FnOk P w K mg base CX0 1 f3 d3 ["_law_deal_here", "_law_many"] spDraw) (D_l_all : Fn K mg "_law_all" st_l_all ["_law_deal_here", "_law_world", "_law_env", "_law_kinds", "_law_heads_here"] f1 d1) (G_l_all : FnOk P w K mg base CX0 3 f1 d1 ["_law_deal_here", "_law_world", "_law_env", "_law_kinds", "_law_heads_here"] spAll)
    (D_l_bound : Fn K mg "_law_bound" st_l_bound ["_law_world", "_law_env", "_law_kind"] f2 d2) (G_l_bound : FnOk P w K mg base CX0 1 f2 d2 ["_law_world", "_law_env", "_law_kind"] spBound) : FnOk P w K mg base CX0 4 f fd ["_law_deal_here", "_law_world", "_law_env", "_law_heads_here", "_law_later"] spCallP := by
  refine D.F.ok sc_l_call_piece (fun vs H Q E h => ?_) (fun cdv A outer s H vs Q E hr h => ?_)
  · obtain ⟨C, g, hs, lt, rfl, _⟩ := h
    rfl
  · obtain ⟨C, g, hs, lt, rfl, B, hgl, hhl, k⟩ := h
    have hu := hu_of hr
    obtain ⟨pw, pa, pk, pf, ua, uk, uf, h1, h2, h3, h4, h5, ra, rks, rfs⟩ := B.wd
    have fr := B.fr
    have luf : uf.length ≤ 4 := by rw [← paired_len rfs]; exact B.ok.fl.2
    refine ⟨_, (pss_cons (ps_set (i := 5) sc_l_call_piece.nd rfl (Or.inl rfl) (pe_op op_cat (pe_slice sl_list (pe_dget hu (pv 1) pe_str (fun _ _ => rfl)) (po_some (pv 4)) po_none) (pe_op op_rep (pe_dget hu (pv 1) pe_str (fun _ _ => rfl)) (pe_callTy call_int1 (by rfl) T.int (by decide +kernel) (pa_cons (pe_cmpR op_eq (pe_call G_l_draw (hr.mono (by decide)) rfl D_l_draw.mg D_l_draw.kp D_l_draw.b .nil pass0 (pa_cons (pv 0) (pa_cons pe_int pa_nil))) pe_int (nomark _)) pa_nil)))))
      (pss_cons (ps_if (pt_cmpR op_eq (pe_callB call_len_seq (by rfl) T.len (by decide +kernel) (pa_cons (pv 5) pa_nil)) pe_int (nomark _)) (pss_one ps_retN) pss_nil)
      (pss_cons (ps_asg (pe_ix ix_list (pv 5) (pe_call G_l_draw (hr.mono (by decide)) rfl D_l_draw.mg D_l_draw.kp D_l_draw.b .nil pass0 (pa_cons (pv 0) (pa_cons (pe_callB call_len_seq (by rfl) T.len (by decide +kernel) (pa_cons (pv 5) pa_nil)) pa_nil))) (fun _ _ => rfl)) (pg_tup (by rfl) (pgs_cons (pg_name (i := 6) sc_l_call_piece.nd rfl (Or.inl rfl)) (pgs_cons (pg_name (i := 7) sc_l_call_piece.nd rfl (Or.inl rfl)) (pgs_cons (pg_name (i := 8) sc_l_call_piece.nd rfl (Or.inr rfl)) pgs_nil)))))
      (pss_cons (ps_setLc (i := 10) (own := [("_law_keeper", 9)]) (g := gName 9) (tt := tTest (tOp (rEqD K) (tOp (rIxT K) (tVar 9) (tC (V.int 2))) (tVar 8))) (te := (tVar 9)) rfl sc_l_call_piece.nd rfl rfl (sw_true rfl rfl rfl (by decide +kernel)) (pi_list (pe_dget hu (pv 1) pe_str (fun _ _ => rfl))) (blkOk_by (own := [("_law_keeper", 9)]) (N := ["_law_deal_here", "_law_world", "_law_env", "_law_heads_here", "_law_later", "_law_functions", "_law_f", "_law_kinds", "_law_kind", "_law_keeper", "_law_some", "_law_args", "_law_x"]) (sc := defScope st_l_call_piece) (by decide +kernel)) (fun _ _ _ _ _ => (pg_name (i := 9) sc_l_call_piece.nd rfl (Or.inl rfl))) (fun _ _ _ _ _ => (pts_one (pt_cmpR (op_eqD hr.units) (pe_ix ix_tup (pv 9) pe_int (fun _ _ => rfl)) (pv 8) (nomark _)))) (fun _ _ _ _ _ => (pv 9)))
      (pss_cons (ps_if (PW.pt (pw_or (pt_cmpR op_eq (pe_callB call_len_seq (by rfl) T.len (by decide +kernel) (pa_cons (pv 10) pa_nil)) pe_int (nomark _)) (pw_or1 (pt_cmpR op_eq (pe_call G_l_draw (hr.mono (by decide)) rfl D_l_draw.mg D_l_draw.kp D_l_draw.b .nil pass0 (pa_cons (pv 0) (pa_cons pe_int pa_nil))) pe_int (nomark _))))) (pss_cons (ps_set (i := 11) sc_l_call_piece.nd rfl (Or.inl rfl) (pe_call G_l_all (hr.mono (by decide)) rfl D_l_all.mg D_l_all.kp D_l_all.b .nil pass0 (pa_cons (pv 0) (pa_cons (pv 1) (pa_cons (pv 2) (pa_cons (pv 7) (pa_cons (pv 3) pa_nil)))))))
      (C8.pss_cut (ps_if (pt_cmpR op_notN (pv 11) pe_non (nomark _)) (pss_one (ps_expr (pe_bm PySem.F.plainAttrs_list PySem.F.slot_list_append PySem.F.type_list_append mt_append (pv 3) (pa_cons (pe_tup (pa_cons pe_str (pa_cons (pe_call G_l_bound (hr.mono (by decide)) rfl D_l_bound.mg D_l_bound.kp D_l_bound.b .nil pass0 (pa_cons (pv 1) (pa_cons (pv 2) (pa_cons (pv 8) pa_nil)))) (pa_cons (pv 6) (pa_cons (pv 11) pa_nil))))) pa_nil)))) pss_nil)
      (pss_one ps_retN))) pss_nil)
      (pss_cons (ps_set (i := 9) sc_l_call_piece.nd rfl (Or.inl rfl) (pe_ix ix_list (pv 10) (pe_call G_l_draw (hr.mono (by decide)) rfl D_l_draw.mg D_l_draw.kp D_l_draw.b .nil pass0 (pa_cons (pv 0) (pa_cons (pe_callB call_len_seq (by rfl) T.len (by decide +kernel) (pa_cons (pv 10) pa_nil)) pa_nil))) (fun _ _ => rfl)))
      (pss_cons (ps_set (i := 11) sc_l_call_piece.nd rfl (Or.inl rfl) (pe_call G_l_all (hr.mono (by decide)) rfl D_l_all.mg D_l_all.kp D_l_all.b .nil pass0 (pa_cons (pv 0) (pa_cons (pv 1) (pa_cons (pv 2) (pa_cons (pe_op op_cat (pe_lst (pa_cons (pe_ix ix_tup (pv 9) pe_int (fun _ _ => rfl)) pa_nil)) (pv 7)) (pa_cons (pv 3) pa_nil)))))))
      (pss_one (ps_if (pt_cmpR op_notN (pv 11) pe_non (nomark _)) (pss_cons (ps_set (i := 12) sc_l_call_piece.nd rfl (Or.inl rfl) (pe_call G_l_bound (hr.mono (by decide)) rfl D_l_bound.mg D_l_bound.kp D_l_bound.b .nil pass0 (pa_cons (pv 1) (pa_cons (pv 2) (pa_cons (pe_ix ix_tup (pv 9) pe_int (fun _ _ => rfl)) pa_nil)))))
      (pss_one (ps_expr (pe_bm PySem.F.plainAttrs_list PySem.F.slot_list_append PySem.F.type_list_append mt_append (pv 3) (pa_cons (pe_tup (pa_cons pe_str (pa_cons (pv 12) (pa_cons (pe_ix ix_tup (pv 9) pe_int (fun _ _ => rfl)) (pa_cons (pe_ix ix_tup (pv 11) pe_int (fun _ _ => rfl)) (pa_cons (pv 6) (pa_cons (pe_slice sl_tupA (pv 11) (po_some pe_int) po_none) pa_nil))))))) pa_nil))))) pss_nil))))))))), ?_⟩
    refine ⟨_, rfl, C.w, .ref pf, rfl, w_functions (fr _ _ h1), _, rfl, (lt : Int), rfl, pf, uf, rfl, SqL.of (fr _ _ h5), fun L1 hL1 => ?_⟩
    rw [cutV_from]
    have s1 := Same.new (o := .lst (uf.drop lt)) hL1
    have a1 := upd_same (H := H) (a := L1) (o := .lst (uf.drop lt))
    have B1 := B.same s1
    have n1 := B.new hL1
    generalize upd H L1 (.lst (uf.drop lt)) = J1 at s1 a1 B1 ⊢
    refine ⟨_, rfl, C.w, .ref pf, rfl, w_functions (B1.fr _ _ h1), _, rfl, C.d, C.l, 5, rfl, B1.deal, by decide, by decide, fun r J2 r0 r1 D2 k2 => ⟨rfl, .inr ⟨_, rfl, ?_⟩⟩⟩
    have B2 := B1.kp D2 k2
    have a2 := k2 _ _ a1 n1.1 n1.2.1
    generalize hc : decide (V.int r = V.int 0) = c
    obtain ⟨uf2, huf2, hn, hp2⟩ : ∃ uf2 : List V, (List.replicate (if c = true then (1 : Int) else 0).toNat uf).flatten = uf2 ∧ uf2.length ≤ 4 ∧ ∃ fs2 : List FW, Paired (FwAt C.F) fs2 uf2 ∧ ∀ x ∈ fs2, x ∈ C.W.fs := by
      cases c with
      | false => exact ⟨[], rfl, Nat.zero_le _, [], .nil, fun _ z => nomatch z⟩
      | true => exact ⟨uf, by simp, luf, C.W.fs, rfs, fun _ z => z⟩
    refine ⟨pf, _, uf, rfl, rfl, B2.fr _ _ h5, ?_, ?_, ?_, fun L2 hL2 => ?_⟩
    · cases c <;> decide
    · cases c <;> decide
    · cases c with
      | false => exact Nat.zero_le _
      | true => exact sz1000 (by show uf.length * 1 ≤ 1000; omega)
    rw [huf2]
    have s3 := Same.new (o := .lst uf2) hL2
    have a3 := upd_same (H := J2) (a := L2) (o := .lst uf2)
    have b3 := s3 _ _ a2
    have B3 := B2.same s3
    generalize upd J2 L2 (.lst uf2) = J3 at s3 a3 b3 B3 ⊢
    refine ⟨L1, L2, _, _, rfl, rfl, b3, a3, sz1000 (by rw [List.length_drop]; omega), fun L3 hL3 => ?_⟩
    obtain ⟨fs2, pf2, mf2⟩ := hp2
    have p4 : Paired (FwAt C.F) (C.W.fs.drop lt ++ fs2) (uf.drop lt ++ uf2) := paired_app (paired_drop lt rfs) pf2
    have m4 : ∀ x ∈ C.W.fs.drop lt ++ fs2, x ∈ C.W.fs := fun x hx => (List.mem_append.mp hx).elim List.mem_of_mem_drop (mf2 x)
    have l4 : (uf.drop lt ++ uf2).length ≤ 8 := by rw [List.length_append, List.length_drop]; omega
    generalize C.W.fs.drop lt ++ fs2 = fs4 at p4 m4
    generalize uf.drop lt ++ uf2 = u4 at p4 l4 ⊢
    have s4 := Same.new (o := .lst u4) hL3
    have a4 := upd_same (H := J3) (a := L3) (o := .lst u4)
    have B4 := B3.same s4
    have n4 := B3.new hL3
    have K4 : KpB C H (upd J3 L3 (.lst u4)) := (KpB.same s1).trans ((KpB.kp k2).trans ((KpB.same s3).trans (KpB.same s4)))
    generalize upd J3 L3 (.lst u4) = J4 at s4 a4 B4 K4 ⊢
    clear s1 a1 B1 k2 D2 B2 a2 s3 a3 b3 B3 s4 hL1 hL2 hL3
    refine gN ?_
    dsimp only
    refine decS_if (by exact decS_len (n := 0) rfl a4) (fun J5 s5 p5 => ?_) fun J5 s5 p5 => ?_
    · exact k g hs J5 ((Stp.refl (B4.same s5) (K4.trans (KpB.same s5))).le (Nat.zero_le _) (Nat.zero_le _))
    · have B5 := B4.same s5
      have a5 := s5 _ _ a4
      unfold tNext
      dsimp only
      have lu : 0 < u4.length := by omega
      refine ⟨_, rfl, _, rfl, _, rfl, L3, _, rfl, .inl (SqL.of a5), C.d, C.l, _, rfl, B5.deal, by omega, by omega, fun r J6 r0 r1 D6 k6 => ?_⟩
      have B6 := B5.kp D6 k6
      have a6 := k6 _ _ a5 n4.1 n4.2.1
      have K6 := K4.trans ((KpB.same s5).trans (KpB.kp k6))
      obtain ⟨v, hv, hin⟩ := atI_in r0 r1
      obtain ⟨fw, hfw, hat⟩ := paired_mem p4 hin
      have hfw := m4 _ hfw
      obtain ⟨p, X, vk, us, rfl, hp, hX, rkk, rkd⟩ := hat
      refine ⟨L3, _, _, _, rfl, rfl, SqL.of a6, hv, p, _, rfl, SqT.of (B6.fr _ _ hp), rfl, _, _, rfl, _, _, rfl, _, _, rfl, rfl, ?_⟩
      clear a4 B4 K4 s5 a5 B5 k6 D6 a6 hv hin r0 r1
      have fk := B6.ok.fk fw hfw
      have ok := B6.ok
      refine ⟨_, rfl, C.w, .ref pk, rfl, w_keepers (B6.fr _ _ h1), pk, rfl, ⟨_, SqL.of (B6.fr _ _ h4)⟩, fun M hM => sel_it walk_list rks (fun kw => decide (kw.takes = fw.kind)) id (RR := fun _ kw v => KwAt C.F kw v) (fun _ z => z) (by have := ok.kl; omega) (fun J s => SqL.of (s _ _ (B6.fr _ _ h4))) hM (fun kw v J hkw hv sJ A B c1 c2 => ?_) fun J sel hJ ps sJ => ?_⟩
      · have hv' := hv
        obtain ⟨p', hh, va, vt, vc, rfl, hp', _, rt, _⟩ := hv'
        have sF := B6.fr.trans sJ
        refine ⟨rfl, ?_⟩
        refine ⟨_, rfl, p', _, 2, _, rfl, rfl, SqT.of (sF _ _ hp'), at_nat _ 2 rfl, _, rfl, eqK (rt.mono (TupK.same sF)) (rkd.mono (TupK.same sF)) (good_ok ok (plain_good (ok.kp kw hkw).2.1)) (good_ok ok (plain_good fk.2.2)) ⟨_, rfl, ite2 (fun c => ?_) fun c => ?_⟩⟩
        · exact ⟨_, rfl, c1 c _ J (Same.refl J) hv⟩
        · exact c2 (by simpa using c) J (Same.refl J)
      · rw [List.map_id] at ps
        have B7 := B6.same sJ
        have nM := B6.new hM
        have K7 := K6.trans (KpB.same sJ)
        have nX : X ≠ C.l ∧ X ≠ C.E ∧ X ≠ C.L := ⟨fun z => (by rw [z, B7.no.2.1] at hX; cases hX), fun z => (by rw [z, B7.no.2.2.1] at hX; cases hX), fun z => (by rw [z, B7.no.2.2.2] at hX; cases hX)⟩
        refine gN ?_
        dsimp only
        refine decK_if (d := C.d) (l := C.l) (decK_or (by exact decK_of (decS_len (n := 0) rfl hJ)) fun H2 D2 k2 _ => by exact decK_draw (n := 3) (c := 0) rfl (by decide) (by decide)) B7.deal (fun J8 D8 k8 p8 => ?_) fun J8 D8 k8 p8 => ?_
        · -- a call
          have B8 := B7.kp D8 k8
          refine ⟨_, rfl, _, rfl, _, rfl, _, rfl, _, rfl, C, g, hs, fw.kinds, X, us, rfl, B8, B8.fr _ _ hX, rkk.mono (TupK.same B8.fr), nX, fk.2.1, by omega, by omega, by omega, fun g' hs' J9 st _ => ?_, fun as g' hs' q J9 st pa hq => ?_⟩
          · refine ⟨fun _ J => Q .non J, ⟨_, rfl, rfl, _, rfl, ite2 (fun c => absurd c (by simp)) fun _ => ?_⟩, fun _ _ z => z⟩
            have s0 : Stp C 0 0 g hs H g hs J8 := Stp.refl B8 (K7.trans (KpB.kp k8))
            exact k g' hs' J9 ((s0.trans st).le (by decide) (by omega))
          · have s0 : Stp C 0 0 g hs H g hs J8 := Stp.refl B8 (K7.trans (KpB.kp k8))
            have st0 := s0.trans st
            obtain ⟨ul, eL, lL⟩ := st.bs.hl
            have ln := st.len
            refine ⟨fun _ J => Q .non J, ⟨_, rfl, rfl, _, rfl, ite2 (fun _ => ?_) fun c => absurd (by simp) c⟩, fun _ _ z => z⟩
            refine ⟨_, rfl, .inl ⟨rfl, _, SqL.of eL⟩, _, rfl, _, rfl, _, rfl, C, g', hs', fw.kind, vk, rfl, st.bs, rkd.mono (TupK.same st.bs.fr), plain_good fk.2.2, by omega, fun H2 B2 k2 => ⟨_, rfl, _, rfl, by show 4 ≤ sizeLine; decide, fun t ht => ?_⟩⟩
            obtain ⟨us2, eL2, lL2⟩ := B2.hl
            have q2 := k2 _ _ hq (st.bs.off hq).1 (st.bs.off hq).2.1 (st.bs.off hq).2.2.1 (st.bs.off hq).2.2.2
            have st' := Same.new (o := .tup [V.str ("call" : Str), V.str (C.W.nm g'.length), V.str fw.nm, .ref q]) ht
            have rt := Rep.new (ds := [.s "call", .s (C.W.nm g'.length), .s fw.nm, argsD as]) (vs := [V.str ("call" : Str), V.str (C.W.nm g'.length), V.str fw.nm, .ref q]) ht (Reps.cons rfl (Reps.cons rfl (Reps.cons rfl (Reps.cons (Rep.tup q2 (args_rep as)) rfl))))
            refine ⟨C.L, us2, _, rfl, rfl, st' _ _ eL2, small1000 (by omega), ?_⟩
            have m1 : MTy C.W g' fw.kind (.call fw.nm as) := ⟨fw, hfw, rfl, rfl, pa⟩
            exact k _ _ _ ((st0.trans (Stp.bind (k2.trans (KpB.same st')) (B2.same st') m1 (st' _ _ eL2) rt)).le (by decide) (by omega))
        · -- a keep
          have B8 := B7.kp D8 k8
          have hM8 := k8 _ _ hJ nM.1 nM.2.1
          have ls : 0 < sel.length := by have := p8.1; omega
          have ls2 : sel.length ≤ 2 := by
            rw [← paired_len ps]
            have := ok.kl
            exact Nat.le_trans (List.length_filter_le _ _) (by omega)
          refine ⟨_, rfl, _, rfl, _, rfl, M, _, rfl, .inl (SqL.of hM8), C.d, C.l, _, rfl, B8.deal, by omega, by omega, fun r J9 r0 r1 D9 k9 => ?_⟩
          have B9 := B8.kp D9 k9
          have hM9 := k9 _ _ hM8 nM.1 nM.2.1
          obtain ⟨v, hv, hin⟩ := atI_in r0 r1
          obtain ⟨kw, hkf, hat⟩ := paired_mem ps hin
          obtain ⟨hkw, ckw⟩ := List.mem_filter.mp hkf
          have ckw : kw.takes = fw.kind := of_decide_eq_true ckw
          obtain ⟨p', hh, va, vt, vg, rfl, hp', rva, _, rvg, _⟩ := hat
          refine ⟨M, _, _, _, rfl, rfl, SqL.of hM9, hv, ?_⟩
          refine ⟨_, rfl, _, rfl, _, rfl, _, rfl, p', _, 1, va, rfl, rfl, SqT.of (B9.fr _ _ hp'), at_nat _ 1 rfl, by show 1 ≤ sizeLine; decide, fun Y hY => ?_⟩
          have sY := Same.new (o := .lst [va]) hY
          have BY := B9.same sY
          have lus := Reps.len rkk
          rw [List.length_map] at lus
          refine ⟨_, rfl, Y, X, _, _, rfl, rfl, upd_same, BY.fr _ _ hX, sz1000 (by show 1 + us.length ≤ 1000; omega), fun Z hZ => ?_⟩
          have sZ := Same.new (o := .lst ([va] ++ us)) hZ
          have BZ := BY.same sZ
          have nZ := BY.new hZ
          have K9 := (K7.trans ((KpB.kp k8).trans (KpB.kp k9))).trans ((KpB.same sY).trans (KpB.same sZ))
          have s0 : Stp C 0 0 g hs H g hs _ := Stp.refl BZ K9
          have ngd : C.W.good kw.note := ok.note hkw
          refine ⟨_, rfl, C, g, hs, kw.note :: fw.kinds, Z, [va] ++ us, rfl, BZ, upd_same, Reps.cons (rva.mono (TupK.same BZ.fr)) (rkk.mono (TupK.same BZ.fr)), ⟨nZ.2.1, nZ.2.2.1, nZ.2.2.2⟩, fun κ hκ => ?_, by rw [List.length_cons]; omega, by rw [List.length_cons]; omega, by omega, fun g' hs' J1 st _ => ?_, fun as g' hs' q J1 st pa hq => ?_⟩
          · rcases List.mem_cons.mp hκ with rfl | hκ
            · exact ngd
            · exact fk.2.1 κ hκ
          · refine ⟨_, rfl, rfl, _, rfl, ite2 (fun c => absurd c (by simp)) fun _ => ?_⟩
            exact k g' hs' J1 ((s0.trans st).le (by decide) (by rw [List.length_cons]; omega))
          · cases pa with
            | cons t1 pas =>
              rename_i a as
              have hq : J1 q = some (.tup (a.v :: as.map Atom.v)) := hq
              have ln := st.len
              rw [List.length_cons] at ln
              refine ⟨_, rfl, rfl, _, rfl, ite2 (fun _ => ?_) fun c => absurd (by simp) c⟩
              refine ⟨_, rfl, _, rfl, _, rfl, p', _, 3, vg, rfl, rfl, SqT.of (st.bs.fr _ _ hp'), at_nat _ 3 rfl, C, g', hs', kw.gives, vg, rfl, st.bs, rvg.mono (TupK.same st.bs.fr), plain_good (ok.kp kw hkw).2.2, by omega, fun H2 B2 k2 => ?_⟩
              obtain ⟨us2, eL2, lL2⟩ := B2.hl
              have q2 := k2 _ _ hq (st.bs.off hq).1 (st.bs.off hq).2.1 (st.bs.off hq).2.2.1 (st.bs.off hq).2.2.2
              refine ⟨_, rfl, .inl ⟨rfl, _, SqL.of eL2⟩, _, rfl, _, rfl, p', _, 0, _, rfl, rfl, SqT.of (B2.fr _ _ hp'), at0 _ _, _, rfl, q, _, 0, _, rfl, rfl, SqT.of q2, at0 _ _, _, rfl, _, rfl, 1, rfl, ?_⟩
              dsimp only
              unfold tNoPart
              refine slA_use q2 fun p3 H3 s3 h3 => ?_
              have h3 : H3 p3 = some (.tup (as.map Atom.v)) := by
                have := h3
                rw [show (1 : Int) = ((1 : Nat) : Int) from rfl, cutV_from] at this
                exact this
              refine ⟨by show 6 ≤ sizeLine; decide, fun t ht => ?_⟩
              have st' := Same.new (o := .tup [V.str ("keep" : Str), V.str (C.W.nm g'.length), V.str kw.nm, a.v, V.str fw.nm, .ref p3]) ht
              have rt := Rep.new (ds := [.s "keep", .s (C.W.nm g'.length), .s kw.nm, a.d, .s fw.nm, argsD as]) (vs := [V.str ("keep" : Str), V.str (C.W.nm g'.length), V.str kw.nm, a.v, V.str fw.nm, .ref p3]) ht (Reps.cons rfl (Reps.cons rfl (Reps.cons rfl (Reps.cons a.rep (Reps.cons rfl (Reps.cons (Rep.tup h3 (args_rep as)) rfl))))))
              have s4 := s3.trans st'
              refine ⟨C.L, us2, _, rfl, rfl, s4 _ _ eL2, small1000 (by omega), ?_⟩
              have m1 : MTy C.W g' kw.gives (.keep kw.nm a fw.nm as) := ⟨kw, hkw, fw, hfw, rfl, rfl, rfl, ckw, t1, pas⟩
              exact k _ _ _ (((s0.trans st).trans (Stp.bind (k2.trans (KpB.same s4)) (B2.same s4) m1 (s4 _ _ eL2) rt)).le (by decide) (by rw [List.length_cons]; omega))
end
end Ak
namespace Ak
open PySem L2
local macro_rules | `(tactic| walk_at "no attr") => `(tactic| exact rwF_no _ _ _ (by decide +kernel) (by decide +kernel) (by decide +kernel))
set_option maxHeartbeats 2000000
/-! ### a piece -/
abbrev st_l_piece : Stmt := top 19
theorem sc_l_piece : FnScope ["_law_deal_here", "_law_world", "_law_env", "_law_heads_here", "_law_later", "_law_way", "_law_held", "_law_a", "_law_other", "_law_sign", "_law_name", "_law_kind", "_law_row", "_law_r", "_law_x", "_law_q", "_law_back", "_law_h", "_law_one"] ["_law_deal_here", "_law_world", "_law_env", "_law_heads_here", "_law_later"] (defScope st_l_piece) := ⟨rfl, rfl, rfl, by decide +kernel, rfl, by decide +kernel, by decide +kernel⟩
theorem sA {te : TE} {g : TG} {u : TS} {D : Ends} {σ : L2.St} {H : Hp} (h : te σ H fun x H1 => g x σ H1 fun σ2 H2 => u D σ2 H2) : tSeq (tAsg te g) u D σ H := h
theorem oP {r : R2} {a b : TE} {σ : L2.St} {H : Hp} {Q : VK} (h : a σ H fun x H1 => b σ H1 fun y H2 => r x y H2 Q) : tOp r a b σ H Q := h
theorem app_bound {K : PySem.W.Frag} {C : BC} {g : List Kd} {hs : List Hd} {H : Hp} (B : BS C g hs H) (hl : hs.length ≤ 950) (hg : g.length ≤ 81) {tag : Str} {κ : Kd} (gk : C.W.good κ) {teK : TE} {rest : TA} {ds : List D} {m : Made} {σ : L2.St} {i1 i2 i3 : Nat} (e1 : σ[i1]? = some (some (.ref C.w))) (e2 : σ[i2]? = some (some (.ref C.E))) (e3 : σ[i3]? = some (some (.ref C.L)))
    (mk : MkD teK σ H κ.d) (mr : ∀ H2, TupK H H2 → MkDs rest σ H2 ds) (hd : m.hd (C.W.nm g.length) = .s tag :: .s (C.W.nm g.length) :: ds) (hn : ds.length ≤ 100) (ty : MTy C.W g κ m) {E : Ends} (k : ∀ hs' H', Stp C 1 1 g hs H (g ++ [κ]) hs' H' → E.nx σ H') :
    tDrop (tBM K "list" rAppend (tVar i3) (tCons (tTup (tCons (tC (.str tag)) (tCons (tCall spBound [] E0 (tCons (tVar i1) (tCons (tVar i2) (tCons teK tNil)))) rest))) tNil)) E σ H := by
  obtain ⟨us, eL, lL⟩ := B.hl
  refine ⟨_, e3, .inl ⟨rfl, _, SqL.of eL⟩, _, e1, _, e2, mk H (Same.refl H) _ fun v H1 s1 r1 => ⟨C, g, hs, κ, v, rfl, B.same s1, r1, gk, hg, fun H2 B2 k2 => ?_⟩⟩
  have tk : TupK H H2 := (TupK.same s1).trans ((B.same s1).tk k2)
  refine mr H2 tk H2 (Same.refl H2) _ fun vs H3 s3 r3 => ⟨by show vs.length + 1 + 1 ≤ sizeLine; exact sz1000 (by rw [Reps.len r3]; omega), fun t ht => ?_⟩
  obtain ⟨us2, eL2, lL2⟩ := B2.hl
  have s4 := Same.new (o := .tup (V.str tag :: V.str (C.W.nm g.length) :: vs)) ht
  have rt := Rep.new (ds := .s tag :: .s (C.W.nm g.length) :: ds) (vs := V.str tag :: V.str (C.W.nm g.length) :: vs) ht (Reps.cons rfl (Reps.cons rfl r3))
  have hr : (Hd.bind (C.W.nm g.length) m).d = .t (.s tag :: .s (C.W.nm g.length) :: ds) := by
    rw [← hd, Made.hd_eq]; rfl
  have s34 := s3.trans s4
  exact ⟨C.L, us2, _, rfl, rfl, s34 _ _ eL2, small1000 (by omega), k _ _ (Stp.bind ((KpB.same s1).trans (k2.trans (KpB.same s34))) (B2.same s34) ty (s34 _ _ eL2) (by rw [hr]; exact rt))⟩
theorem use_all {C : BC} {g : List Kd} {hs : List Hd} {H : Hp} (B : BS C g hs H) {κs : List Kd} {tl : TA} {σ : L2.St} {i0 i1 i2 i3 : Nat} (e0 : σ[i0]? = some (some (.ref C.d))) (e1 : σ[i1]? = some (some (.ref C.w))) (e2 : σ[i2]? = some (some (.ref C.E))) (e3 : σ[i3]? = some (some (.ref C.L)))
    (mk : MkDs tl σ H (κs.map Kd.d)) (gk : ∀ κ ∈ κs, C.W.good κ) (l5 : κs.length ≤ 5) (hg : g.length + κs.length ≤ 82) (hl : hs.length ≤ 800) {Q : VK}
    (kN : ∀ g' hs' H', Stp C 0 κs.length g hs H g' hs' H' → (∃ κ ∈ κs, (∃ k q, κ = .hold k q) ∧ κ ∉ g) → Q .non H') (k : ∀ as g' hs' p H', Stp C 0 κs.length g hs H g' hs' H' → Paired (AtTy C.W g') κs as → H' p = some (.tup (as.map Atom.v)) → Q (.ref p) H') :
    tCall spAll [] E0 (tCons (tVar i0) (tCons (tVar i1) (tCons (tVar i2) (tCons (tLst tl) (tCons (tVar i3) tNil))))) σ H Q := by
  refine ⟨_, e0, _, e1, _, e2, lst_use mk (Same.refl H) (by rw [List.length_map]; omega) fun X us J nX hX rX sX => ⟨_, e3, C, g, hs, κs, X, us, rfl, B.same sX, hX, rX, ⟨(B.new nX).2.1, (B.new nX).2.2.1, (B.new nX).2.2.2⟩, gk, l5, hg, hl, fun g' hs' H' st => kN g' hs' H' ?_, fun as g' hs' p H' st => k as g' hs' p H' ?_⟩⟩
  · exact ((Stp.refl (B.same sX) (KpB.same sX)).trans st).le (by omega) (by omega)
  · exact ((Stp.refl (B.same sX) (KpB.same sX)).trans st).le (by omega) (by omega)
theorem use_have {C : BC} {g : List Kd} {hs : List Hd} {H : Hp} (B : BS C g hs H) {κ : Kd} {te : TE} {σ : L2.St} {i0 i1 i2 i3 : Nat} (e0 : σ[i0]? = some (some (.ref C.d))) (e1 : σ[i1]? = some (some (.ref C.w))) (e2 : σ[i2]? = some (some (.ref C.E))) (e3 : σ[i3]? = some (some (.ref C.L)))
    (mk : MkD te σ H κ.d) (gk : C.W.good κ) (nh : ¬ ∃ k q, κ = .hold k q) (hg : g.length ≤ 81) (hl : hs.length ≤ 900) {Q : VK}
    (k : ∀ (a : Atom) g' hs' H', Stp C 0 1 g hs H g' hs' H' → AtTy C.W g' κ a → Q a.v H') :
    tCall spHave [] E0 (tCons (tVar i0) (tCons (tVar i1) (tCons (tVar i2) (tCons te (tCons (tVar i3) tNil))))) σ H Q := by
  refine ⟨_, e0, _, e1, _, e2, mk H (Same.refl H) _ fun v J sJ r => ⟨_, e3, C, g, hs, κ, v, rfl, B.same sJ, r, gk, hg, hl, fun oa g' hs' H' st c1 c2 => ?_⟩⟩
  cases oa with
  | none => exact absurd (c1 rfl).1 nh
  | some a => exact k a g' hs' H' (((Stp.refl (B.same sJ) (KpB.same sJ)).trans st).le (by omega) (by omega)) (c2 a rfl)
theorem mk_kn {σ : L2.St} {H : Hp} : MkD (tTup (tCons (tC (.str ("num" : Str))) tNil)) σ H Kd.num.d := mk_tup (mk_cons mk_str mk_nil) le1000
/-- the names bound, by their places -/
def WW.pl (g : List Kd) : List (Nat × Kd) := g.mapIdx fun i κ => (i, κ)
def WW.pd (W : WW) (p : Nat × Kd) : D := .t [.s (W.nm p.1), p.2.d]
theorem pl_get (g : List Kd) (i : Nat) : (WW.pl g)[i]? = (g[i]?).map fun κ => (i, κ) := by
  unfold WW.pl
  rw [List.getElem?_mapIdx]
theorem pl_env (W : WW) (g : List Kd) : W.envD g = (WW.pl g).map W.pd := by
  refine List.ext_getElem? fun i => ?_
  rw [envD_get, List.getElem?_map, pl_get, Option.map_map]; rfl
theorem pl_mem {g : List Kd} {p : Nat × Kd} (h : p ∈ WW.pl g) : g[p.1]? = some p.2 := by
  obtain ⟨i, e⟩ := List.mem_iff_getElem?.mp h
  rw [pl_get] at e
  obtain ⟨κ, e1, rfl⟩ := Option.map_eq_some_iff.mp e
  exact e1
theorem pl_len (g : List Kd) : (WW.pl g).length = g.length := by unfold WW.pl; rw [List.length_mapIdx]
theorem decS_gt {K : PySem.W.Frag} {i : Nat} {σ : L2.St} {H : Hp} {p : Addr} {xs : List V} {n : Int} (e : σ[i]? = some (some (.ref p))) (h : H p = some (.lst xs)) : DecS (tTest (tOp (rI0 fun i j => V.bl (decide (i > j))) (tCB (fun zs H1 Q => ∃ p ys, zs = [V.ref p] ∧ (SqL K H1 p ys ∨ SqT K H1 p ys) ∧ Q (V.int (ys.length : Int)) H1) (tCons (tVar i) tNil)) (tC (.int n)))) σ H ((xs.length : Int) > n) := fun Q a b => ⟨_, e, p, xs, rfl, .inl (SqL.of h), _, _, rfl, rfl, _, rfl, by
  by_cases c : (xs.length : Int) > n
  · rw [decide_eq_true c]; exact a H (Same.refl H) c
  · rw [decide_eq_false c]; exact b H (Same.refl H) c⟩
theorem signs_of : ∀ c ∈ ("+-*<=" : Str).cps.toList, (⟨#[c]⟩ : Str) ∈ signs := by decide +kernel
theorem signs_len : ("+-*<=" : Str).cps.toList.length = 5 := by decide +kernel
/-- what a thing's row is -/
theorem mk_holds {K : PySem.W.Frag} {σ : L2.St} {H : Hp} {x : Str} {i : Nat} {κ : Kd} {v : V} (e : σ[i]? = some (some v)) (r : Rep H κ.d v) : MkD (tOp (rCatA K) (tTup (tCons (tC (.str x)) tNil)) (tSl (rSlA K) (tVar i) (tPart (tC (.int 1))) tNoPart)) σ H (.t (.s x :: (κ.w.drop 1).map Ak.D.s)) := fun J s Q k => by
  obtain ⟨p, rfl, hp⟩ := kd_at (r.mono (TupK.same s))
  refine ⟨by show 1 ≤ sizeLine; decide, fun t ht => ⟨_, e, 1, rfl, ?_⟩⟩
  have s1 := Same.new (o := .tup [V.str x]) ht
  dsimp only
  unfold tNoPart
  refine slA_use (s1 _ _ hp) fun p3 H3 s3 h3 => ?_
  have h3 : H3 p3 = some (.tup ((κ.w.drop 1).map V.str)) := by
    have := h3
    rw [show (1 : Int) = ((1 : Nat) : Int) from rfl, cutV_from, ← List.map_drop] at this
    exact this
  have ht3 : H3 t = some (.tup [V.str x]) := s3 _ _ upd_same
  have r0 : ∀ {J : Hp} (ws : List Str), Reps J (ws.map Ak.D.s) (ws.map V.str) := fun ws => by
    induction ws with
    | nil => rfl
    | cons x r ih => exact Reps.cons rfl ih
  refine ⟨t, p3, _, _, rfl, rfl, SqT.of ht3, SqT.of h3, ?_, (fun z => nomatch z), fun _ z => ?_, fun _ _ q hq => ?_⟩
  · rw [List.length_map, List.length_drop]
    have : κ.w.length ≤ 3 := by cases κ <;> (show _ ≤ 3; simp [Kd.w])
    exact sz1000 (by show 1 + _ ≤ 1000; omega)
  · have : (κ.w.drop 1).map Ak.D.s = [] := by
      have := congrArg List.length z
      rw [List.length_map] at this
      rw [List.length_eq_zero_iff.mp this]; rfl
    refine k _ _ (s1.trans s3) ?_
    rw [this]
    exact ⟨t, _, rfl, ht3, Reps.cons rfl rfl⟩
  · exact k _ _ ((s1.trans s3).trans (Same.new hq)) ⟨q, _, rfl, upd_same, Reps.cons rfl (r0 _)⟩
theorem num_no : ¬ ∃ k q, Kd.num = .hold k q := by rintro ⟨k, q, e⟩; cases e
theorem pd_at {W : WW} {H : Hp} {p : Nat × Kd} {v : V} (h : Rep H (W.pd p) v) : ∃ (a : Addr) (kv : V), v = .ref a ∧ H a = some (.tup [.str (W.nm p.1), kv]) ∧ Rep H p.2.d kv := by
  obtain ⟨a, vs, rfl, hp, v0, _, rfl, e0, v1, _, rfl, r1, er⟩ := h
  cases (show v0 = _ from e0)
  cases er
  exact ⟨a, v1, rfl, hp, r1⟩
def Kd.isHold : Kd → Bool | .hold _ _ => true | _ => false
theorem hold_hd (κ : Kd) : decide (V.str κ.hd = V.str ("hold" : Str)) = κ.isHold := by
  have n1 : ¬ V.str ("num" : Str) = V.str ("hold" : Str) := by decide +kernel
  have n2 : ¬ V.str ("nums" : Str) = V.str ("hold" : Str) := by decide +kernel
  have n3 : ¬ V.str ("holds" : Str) = V.str ("hold" : Str) := by decide +kernel
  cases κ with
  | num => exact decide_eq_false n1
  | nums => exact decide_eq_false n2
  | hold k q => exact decide_eq_true rfl
  | holds k q => exact decide_eq_false n3
def spPiece : Sp := fun vs H Q _ => ∃ (C : BC) (g : List Kd) (hs : List Hd) (lt : Nat), vs = [.ref C.d, .ref C.w, .ref C.E, .ref C.L, .int (lt : Int)] ∧ BS C g hs H ∧ g.length ≤ 76 ∧ hs.length ≤ 700 ∧
  ∀ (g' : List Kd) (hs' : List Hd) (H' : Hp), Stp C 1 6 g hs H g' hs' H' → Q .non H'
section
variable {P : Program} {w : World} {K : PySem.W.Frag} {mg : Str → Option Value} {base : Heap} {f1 f2 f3 f4 f5 f6 : Addr} {d1 d2 d3 d4 d5 d6 : FuncData}
theorem ok_l_piece {f : Addr} {fd : FuncData} (D : Fn K mg "_law_piece" st_l_piece ["_law_deal_here", "_law_world", "_law_env", "_law_heads_here", "_law_later"] f fd) (T : BltB mg) (D_l_draw : Fn K mg "_law_draw" st_l_draw ["_law_deal_here", "_law_many"] f3 d3) (G_l_draw : FnOk P w K mg base CX0 1 f3 d3 ["_law_deal_here", "_law_many"] spDraw) (D_l_all : Fn K mg "_law_all" st_l_all ["_law_deal_here", "_law_world", "_law_env", "_law_kinds", "_law_heads_here"] f1 d1) (G_l_all : FnOk P w K mg base CX0 3 f1 d1 ["_law_deal_here", "_law_world", "_law_env", "_law_kinds", "_law_heads_here"] spAll)
    (D_l_bound : Fn K mg "_law_bound" st_l_bound ["_law_world", "_law_env", "_law_kind"] f2 d2) (G_l_bound : FnOk P w K mg base CX0 1 f2 d2 ["_law_world", "_law_env", "_law_kind"] spBound) (D_l_have : Fn K mg "_law_have" st_l_have ["_law_deal_here", "_law_world", "_law_env", "_law_kind", "_law_heads_here"] f4 d4) (G_l_have : FnOk P w K mg base CX0 2 f4 d4 ["_law_deal_here", "_law_world", "_law_env", "_law_kind", "_law_heads_here"] spHave)
    (D_l_call_piece : Fn K mg "_law_call_piece" st_l_call_piece ["_law_deal_here", "_law_world", "_law_env", "_law_heads_here", "_law_later"] f5 d5) (G_l_call_piece : FnOk P w K mg base CX0 4 f5 d5 ["_law_deal_here", "_law_world", "_law_env", "_law_heads_here", "_law_later"] spCallP) (D_l_go : Fn K mg "_law_go" st_l_go ["_law_deal_here", "_law_world", "_law_env", "_law_heads_here", "_law_h", "_law_kind"] f6 d6) (G_l_go : FnOk P w K mg base CX0 4 f6 d6 ["_law_deal_here", "_law_world", "_law_env", "_law_heads_here", "_law_h", "_law_kind"] spGo) : FnOk P w K mg base CX0 5 f fd ["_law_deal_here", "_law_world", "_law_env", "_law_heads_here", "_law_later"] spPiece := by
  refine D.F.ok sc_l_piece (fun vs H Q E h => ?_) (fun cdv A outer s H vs Q E hr h => ?_)
  · obtain ⟨C, g, hs, lt, rfl, _⟩ := h
    rfl
  · obtain ⟨C, g, hs, lt, rfl, B, hgl, hhl, k⟩ := h
    have hu := hu_of hr
    obtain ⟨pw, pa, pk, pf, ua, uk, uf, h1, h2, h3, h4, h5, ra, rks, rfs⟩ := B.wd
    have ok := B.ok
    refine ⟨_, (pss_cons (ps_set (i := 5) sc_l_piece.nd rfl (Or.inl rfl) (pe_call G_l_draw (hr.mono (by decide)) rfl D_l_draw.mg D_l_draw.kp D_l_draw.b .nil pass0 (pa_cons (pv 0) (pa_cons pe_int pa_nil))))
      (pss_cons (ps_setLc (i := 6) (own := [("_law_one", 18)]) (g := gName 18) (tt := tTest (tOp rEq (tOp (rIxT K) (tOp (rIxT K) (tVar 18) (tC (V.int 1))) (tC (V.int 0))) (tC (V.str "hold")))) (te := (tVar 18)) rfl sc_l_piece.nd rfl rfl (sw_true rfl rfl rfl (by decide +kernel)) (pi_list (pv 2)) (blkOk_by (own := [("_law_one", 18)]) (N := ["_law_deal_here", "_law_world", "_law_env", "_law_heads_here", "_law_later", "_law_way", "_law_held", "_law_a", "_law_other", "_law_sign", "_law_name", "_law_kind", "_law_row", "_law_r", "_law_x", "_law_q", "_law_back", "_law_h", "_law_one"]) (sc := defScope st_l_piece) (by decide +kernel)) (fun _ _ _ _ _ => (pg_name (i := 18) sc_l_piece.nd rfl (Or.inl rfl))) (fun _ _ _ _ _ => (pts_one (pt_cmpR op_eq (pe_ix ix_tup (pe_ix ix_tup (pv 18) pe_int (fun _ _ => rfl)) pe_int (fun _ _ => rfl)) pe_str (nomark _)))) (fun _ _ _ _ _ => (pv 18)))
      (pss_one (ps_if (pt_cmpR op_eq (pv 5) pe_int (nomark _)) (pss_one (ps_expr (pe_bm PySem.F.plainAttrs_list PySem.F.slot_list_append PySem.F.type_list_append mt_append (pv 3) (pa_cons (pe_tup (pa_cons pe_str (pa_cons (pe_call G_l_have (hr.mono (by decide)) rfl D_l_have.mg D_l_have.kp D_l_have.b .nil pass0 (pa_cons (pv 0) (pa_cons (pv 1) (pa_cons (pv 2) (pa_cons (pe_tup (pa_cons pe_str pa_nil)) (pa_cons (pv 3) pa_nil)))))) pa_nil))) pa_nil)))) (pss_one (ps_if (pt_cmpR op_lt (pv 5) pe_int (nomark _)) (pss_cons (ps_asg (pe_call G_l_all (hr.mono (by decide)) rfl D_l_all.mg D_l_all.kp D_l_all.b .nil pass0 (pa_cons (pv 0) (pa_cons (pv 1) (pa_cons (pv 2) (pa_cons (pe_lst (pa_cons (pe_tup (pa_cons pe_str pa_nil)) (pa_cons (pe_tup (pa_cons pe_str pa_nil)) pa_nil))) (pa_cons (pv 3) pa_nil)))))) (pg_tup (by rfl) (pgs_cons (pg_name (i := 7) sc_l_piece.nd rfl (Or.inl rfl)) (pgs_cons (pg_name (i := 8) sc_l_piece.nd rfl (Or.inl rfl)) pgs_nil))))
      (pss_cons (ps_set (i := 9) sc_l_piece.nd rfl (Or.inl rfl) (pe_ix ix_str pe_str (pe_call G_l_draw (hr.mono (by decide)) rfl D_l_draw.mg D_l_draw.kp D_l_draw.b .nil pass0 (pa_cons (pv 0) (pa_cons pe_int pa_nil))) (fun _ _ => rfl)))
      (pss_one (ps_expr (pe_bm PySem.F.plainAttrs_list PySem.F.slot_list_append PySem.F.type_list_append mt_append (pv 3) (pa_cons (pe_tup (pa_cons pe_str (pa_cons (pe_call G_l_bound (hr.mono (by decide)) rfl D_l_bound.mg D_l_bound.kp D_l_bound.b .nil pass0 (pa_cons (pv 1) (pa_cons (pv 2) (pa_cons (pe_tup (pa_cons pe_str pa_nil)) pa_nil)))) (pa_cons (pv 9) (pa_cons (pv 7) (pa_cons (pv 8) pa_nil)))))) pa_nil)))))) (pss_one (ps_if (PW.pt (pw_and (pt_cmpR op_eq (pv 5) pe_int (nomark _)) (pw_and1 (pt_cmpR op_gt (pe_callB call_len_seq (by rfl) T.len (by decide +kernel) (pa_cons (pv 2) pa_nil)) pe_int (nomark _))))) (pss_cons (ps_asg (pe_ix ix_list (pv 2) (pe_call G_l_draw (hr.mono (by decide)) rfl D_l_draw.mg D_l_draw.kp D_l_draw.b .nil pass0 (pa_cons (pv 0) (pa_cons (pe_callB call_len_seq (by rfl) T.len (by decide +kernel) (pa_cons (pv 2) pa_nil)) pa_nil))) (fun _ _ => rfl)) (pg_tup (by rfl) (pgs_cons (pg_name (i := 10) sc_l_piece.nd rfl (Or.inl rfl)) (pgs_cons (pg_name (i := 11) sc_l_piece.nd rfl (Or.inl rfl)) pgs_nil))))
      (pss_one (ps_expr (pe_bm PySem.F.plainAttrs_list PySem.F.slot_list_append PySem.F.type_list_append mt_append (pv 3) (pa_cons (pe_tup (pa_cons pe_str (pa_cons (pe_call G_l_bound (hr.mono (by decide)) rfl D_l_bound.mg D_l_bound.kp D_l_bound.b .nil pass0 (pa_cons (pv 1) (pa_cons (pv 2) (pa_cons (pv 11) pa_nil)))) (pa_cons (pv 10) pa_nil)))) pa_nil))))) (pss_one (ps_if (pt_cmpR op_lt (pv 5) pe_int (nomark _)) (pss_cons (ps_set (i := 11) sc_l_piece.nd rfl (Or.inl rfl) (pe_ix ix_list (pe_op op_cat (pe_lc (own := [("_law_one", 18)]) (g := gName 18) (tt := tYes) (te := (tOp (rIxT K) (tVar 18) (tC (V.int 1)))) rfl sc_l_piece.nd (pi_list (pv 6)) (blkOk_by (own := [("_law_one", 18)]) (N := ["_law_deal_here", "_law_world", "_law_env", "_law_heads_here", "_law_later", "_law_way", "_law_held", "_law_a", "_law_other", "_law_sign", "_law_name", "_law_kind", "_law_row", "_law_r", "_law_x", "_law_q", "_law_back", "_law_h", "_law_one"]) (sc := defScope st_l_piece) (by decide +kernel)) (fun _ _ _ _ _ => (pg_name (i := 18) sc_l_piece.nd rfl (Or.inl rfl))) (fun _ _ _ _ _ => pts_nil) (fun _ _ _ _ _ => (pe_ix ix_tup (pv 18) pe_int (fun _ _ => rfl)))) (pe_lst (pa_cons (pe_tup (pa_cons pe_str pa_nil)) pa_nil))) (pe_call G_l_draw (hr.mono (by decide)) rfl D_l_draw.mg D_l_draw.kp D_l_draw.b .nil pass0 (pa_cons (pv 0) (pa_cons (pe_op op_add (pe_callB call_len_seq (by rfl) T.len (by decide +kernel) (pa_cons (pv 6) pa_nil)) pe_int) pa_nil))) (fun _ _ => rfl)))
      (pss_cons (ps_set (i := 12) sc_l_piece.nd rfl (Or.inl rfl) (pe_ix ix_list (pe_lst (pa_cons (pe_op op_catA (pe_tup (pa_cons pe_str pa_nil)) (pe_slice sl_tupA (pv 11) (po_some pe_int) po_none)) (pa_cons (pe_tup (pa_cons pe_str pa_nil)) pa_nil))) (pe_callTy call_int1 (by rfl) T.int (by decide +kernel) (pa_cons (pe_cmpR (op_eqD hr.units) (pv 11) (pe_tup (pa_cons pe_str pa_nil)) (nomark _)) pa_nil)) (fun _ _ => rfl)))
      (pss_cons (ps_asg (pe_call G_l_all (hr.mono (by decide)) rfl D_l_all.mg D_l_all.kp D_l_all.b .nil pass0 (pa_cons (pv 0) (pa_cons (pv 1) (pa_cons (pv 2) (pa_cons (pe_lst (pa_cons (pv 12) (pa_cons (pv 11) pa_nil))) (pa_cons (pv 3) pa_nil)))))) (pg_tup (by rfl) (pgs_cons (pg_name (i := 13) sc_l_piece.nd rfl (Or.inl rfl)) (pgs_cons (pg_name (i := 7) sc_l_piece.nd rfl (Or.inl rfl)) pgs_nil))))
      (pss_cons (ps_set (i := 14) sc_l_piece.nd rfl (Or.inl rfl) (pe_call G_l_bound (hr.mono (by decide)) rfl D_l_bound.mg D_l_bound.kp D_l_bound.b .nil pass0 (pa_cons (pv 1) (pa_cons (pv 2) (pa_cons (pv 12) pa_nil)))))
      (pss_one (ps_expr (pe_bm PySem.F.plainAttrs_list PySem.F.slot_list_append PySem.F.type_list_append mt_append (pv 3) (pa_cons (pe_ix ix_list (pe_lst (pa_cons (pe_tup (pa_cons pe_str (pa_cons (pv 14) (pa_cons (pv 7) (pa_cons (pv 13) pa_nil))))) (pa_cons (pe_tup (pa_cons pe_str (pa_cons (pv 14) (pa_cons (pv 13) (pa_cons (pv 7) pa_nil))))) pa_nil))) (pe_call G_l_draw (hr.mono (by decide)) rfl D_l_draw.mg D_l_draw.kp D_l_draw.b .nil pass0 (pa_cons (pv 0) (pa_cons pe_int pa_nil))) (fun _ _ => rfl)) pa_nil)))))))) (pss_one (ps_if (pt_cmpR op_lt (pv 5) pe_int (nomark _)) (pss_cons (ps_asg (pe_ix ix_list (pe_dget hu (pv 1) pe_str (fun _ _ => rfl)) (pe_call G_l_draw (hr.mono (by decide)) rfl D_l_draw.mg D_l_draw.kp D_l_draw.b .nil pass0 (pa_cons (pv 0) (pa_cons (pe_callB call_len_seq (by rfl) T.len (by decide +kernel) (pa_cons (pe_dget hu (pv 1) pe_str (fun _ _ => rfl)) pa_nil)) pa_nil))) (fun _ _ => rfl)) (pg_tup (by rfl) (pgs_cons (pg_name (i := 15) sc_l_piece.nd rfl (Or.inl rfl)) (pgs_cons (pg_name (i := 11) sc_l_piece.nd rfl (Or.inl rfl)) (pgs_cons (pg_name (i := 16) sc_l_piece.nd rfl (Or.inl rfl)) pgs_nil)))))
      (pss_cons (ps_set (i := 7) sc_l_piece.nd rfl (Or.inl rfl) (pe_call G_l_have (hr.mono (by decide)) rfl D_l_have.mg D_l_have.kp D_l_have.b .nil pass0 (pa_cons (pv 0) (pa_cons (pv 1) (pa_cons (pv 2) (pa_cons (pv 11) (pa_cons (pv 3) pa_nil)))))))
      (pss_one (ps_expr (pe_bm PySem.F.plainAttrs_list PySem.F.slot_list_append PySem.F.type_list_append mt_append (pv 3) (pa_cons (pe_tup (pa_cons pe_str (pa_cons (pe_call G_l_bound (hr.mono (by decide)) rfl D_l_bound.mg D_l_bound.kp D_l_bound.b .nil pass0 (pa_cons (pv 1) (pa_cons (pv 2) (pa_cons (pv 16) pa_nil)))) (pa_cons (pv 15) (pa_cons (pv 7) pa_nil))))) pa_nil)))))) (pss_one (ps_if (PW.pt (pw_or (pt_cmpR op_lt (pv 5) pe_int (nomark _)) (pw_or1 (pt_cmpR op_eq (pe_callB call_len_seq (by rfl) T.len (by decide +kernel) (pa_cons (pv 6) pa_nil)) pe_int (nomark _))))) (pss_one (ps_expr (pe_call G_l_call_piece (hr.mono (by decide)) rfl D_l_call_piece.mg D_l_call_piece.kp D_l_call_piece.b .nil pass0 (pa_cons (pv 0) (pa_cons (pv 1) (pa_cons (pv 2) (pa_cons (pv 3) (pa_cons (pv 4) pa_nil)))))))) (pss_cons (ps_asg (pe_ix ix_list (pv 6) (pe_call G_l_draw (hr.mono (by decide)) rfl D_l_draw.mg D_l_draw.kp D_l_draw.b .nil pass0 (pa_cons (pv 0) (pa_cons (pe_callB call_len_seq (by rfl) T.len (by decide +kernel) (pa_cons (pv 6) pa_nil)) pa_nil))) (fun _ _ => rfl)) (pg_tup (by rfl) (pgs_cons (pg_name (i := 17) sc_l_piece.nd rfl (Or.inl rfl)) (pgs_cons (pg_name (i := 11) sc_l_piece.nd rfl (Or.inl rfl)) pgs_nil))))
      (pss_one (ps_expr (pe_call G_l_go (hr.mono (by decide)) rfl D_l_go.mg D_l_go.kp D_l_go.b .nil pass0 (pa_cons (pv 0) (pa_cons (pv 1) (pa_cons (pv 2) (pa_cons (pv 3) (pa_cons (pv 17) (pa_cons (pv 11) pa_nil)))))))))))))))))))))))), ?_⟩
    refine ⟨_, rfl, C.d, C.l, 13, rfl, B.deal, by decide, by decide, fun way J1 w0 w1 D1 k1 => ?_⟩
    have B1 := B.kp D1 k1
    have K1 : KpB C H J1 := KpB.kp k1
    obtain ⟨us, e1, r1⟩ := B1.e
    rw [pl_env] at r1
    refine ⟨_, rfl, C.E, rfl, ⟨_, SqL.of e1⟩, fun M hM => sel_it walk_list (reps_paired r1) (fun p => p.2.isHold) id (RR := fun J p v => Rep J (C.W.pd p) v) (fun tk z => z.mono tk) (by rw [pl_len]; omega) (fun J s => SqL.of (s _ _ e1)) hM (fun p v J hp hv sJ A B c1 c2 => ?_) fun J sel hJ ps sJ => ?_⟩
    · obtain ⟨a, kv, rfl, ha, rkv⟩ := pd_at hv
      obtain ⟨b, rfl, hb⟩ := kd_at rkv
      refine ⟨rfl, ?_⟩
      refine ⟨_, rfl, a, _, 1, _, rfl, rfl, SqT.of (sJ _ _ ha), at_nat _ 1 rfl, b, _, 0, _, rfl, rfl, SqT.of (sJ _ _ hb), kd_at0 hb, rfl, _, rfl, ?_⟩
      rw [hold_hd]
      refine ite2 (fun c => ?_) fun c => ?_
      · exact ⟨_, rfl, c1 c _ J (Same.refl J) (hv.mono (TupK.same sJ))⟩
      · exact c2 (by simpa using c) J (Same.refl J)
    · rw [List.map_id] at ps
      have B2 := B1.same sJ
      have K2 := K1.trans (KpB.same sJ)
      have nM := B1.new hM
      have S0 : Stp C 0 0 g hs H g hs J := Stp.refl B2 K2
      refine gN ?_
      dsimp only
      refine decS_if (by exact decS_eqI rfl) (fun J2 s2 p2 => ?_) fun J2 s2 p2 => ?_
      · -- tell
        have S2 : Stp C 0 0 g hs H g hs J2 := Stp.refl (B2.same s2) (K2.trans (KpB.same s2))
        obtain ⟨ul, eL, lL⟩ := S2.bs.hl
        refine ⟨_, rfl, .inl ⟨rfl, _, SqL.of eL⟩, ?_⟩
        refine use_have (κ := .num) S2.bs (by exact rfl) (by exact rfl) (by exact rfl) (by exact rfl) (by exact mk_kn) trivial num_no (by omega) (by omega) fun a g' hs' H' st at1 => ⟨by show 2 ≤ sizeLine; decide, fun t ht => ?_⟩
        have st' := Same.new (o := .tup [V.str ("tell" : Str), a.v]) ht
        have rt := Rep.new (ds := [.s "tell", a.d]) (vs := [V.str ("tell" : Str), a.v]) ht (Reps.cons rfl (Reps.cons a.rep rfl))
        obtain ⟨us2, eL2, lL2⟩ := st.bs.hl
        have ln := st.len
        refine ⟨C.L, us2, _, rfl, rfl, st' _ _ eL2, small1000 (by omega), ?_⟩
        exact k _ _ _ (((S2.trans st).trans ((Stp.refl (st.bs.same st') (KpB.same st')).trans (Stp.tell (st.bs.same st') at1 (st' _ _ eL2) rt))).le (by decide) (by decide))
      · have B3 := B2.same s2
        have K3 := K2.trans (KpB.same s2)
        refine decS_if (by exact decS_rel (f := fun i j => decide (i < j)) rfl) (fun J3 s3 p3 => ?_) fun J3 s3 p3 => ?_
        · -- a sum
          have S3 : Stp C 0 0 g hs H g hs J3 := Stp.refl (B3.same s3) (K3.trans (KpB.same s3))
          refine use_all (κs := [.num, .num]) S3.bs (by exact rfl) (by exact rfl) (by exact rfl) (by exact rfl) (by exact mk_cons mk_kn (mk_cons mk_kn mk_nil)) (fun κ hκ => ?_) le_of_ble (by show _ + 2 ≤ 82; omega) (by omega) (fun g' hs' H' st hno => ?_) fun as g' hs' p H' st pa hp => ?_
          · have : κ = .num := by simpa using hκ
            rw [this]; trivial
          · obtain ⟨κ, hκ, hz, _⟩ := hno
            have : κ = .num := by simpa using hκ
            rw [this] at hz
            exact absurd hz num_no
          · cases pa with
            | cons t1 pa => cases pa with
              | cons t2 pa => cases pa with
                | nil =>
                  rename_i a b
                  have hp : H' p = some (.tup [a.v, b.v]) := hp
                  have ln := st.len
                  have l2 : [Kd.num, Kd.num].length = 2 := rfl
                  refine ⟨p, _, rfl, SqT.of hp, rfl, _, _, rfl, _, _, rfl, rfl, ?_⟩
                  refine ⟨_, rfl, C.d, C.l, 5, rfl, st.bs.deal, by decide, by decide, fun r H4 r0 r1 D4 k4 => ?_⟩
                  obtain ⟨c, hc, hin⟩ := atI_in (xs := ("+-*<=" : Str).cps.toList) r0 (by rw [signs_len]; omega)
                  refine ⟨"+-*<=", _, c, rfl, rfl, by decide +kernel, hc, ?_⟩
                  have B4 := st.bs.kp D4 k4
                  refine app_bound (κ := .num) (m := .sum ⟨#[c]⟩ a b) (ds := [.s ⟨#[c]⟩, a.d, b.d]) B4 (by omega) (by omega) trivial (by exact rfl) (by exact rfl) (by exact rfl) (by exact mk_kn) (by exact fun H2 tk => mk_cons (mk_vs rfl) (mk_cons (mk_v rfl a.rep) (mk_cons (mk_v rfl b.rep) mk_nil))) rfl le_of_ble ⟨rfl, signs_of c hin, t1, t2⟩ fun hs2 H5 st5 => ?_
                  exact k _ _ _ (((S3.trans st).trans ((Stp.refl B4 (KpB.kp k4)).trans st5)).le (by decide) (by show 0 + 2 + (0 + 1) ≤ 6; decide))
        · obtain ⟨uE, eE, rE⟩ := (B3.same s3).e
          have lE : uE.length = g.length := by rw [Reps.len rE, envD_len]
          refine decS_if (decS_and (by exact decS_eqI rfl) fun J4 s4 _ => by exact decS_gt (n := 0) rfl (s4 _ _ eE)) (fun J4 s4 p4 => ?_) fun J4 s4 p4 => ?_
          · -- a let
            have B4 := (B3.same s3).same s4
            have S4 : Stp C 0 0 g hs H g hs J4 := Stp.refl B4 (K3.trans ((KpB.same s3).trans (KpB.same s4)))
            have eE4 := s4 _ _ eE
            have hE := p4.2
            refine ⟨_, rfl, _, rfl, _, rfl, C.E, _, rfl, .inl (SqL.of eE4), C.d, C.l, _, rfl, B4.deal, by omega, by omega, fun r J5 r0 r1 D5 k5 => ?_⟩
            have B5 := B4.kp D5 k5
            have eE5 := k5 _ _ eE4 B4.nd.1 B4.ne.1
            have rE5 := rE.mono ((TupK.same s4).trans (TupK.kp B4.deal k5))
            rw [pl_env] at rE5
            obtain ⟨v, hv, hin⟩ := atI_in r0 r1
            obtain ⟨pp, hpp, hat⟩ := paired_mem (reps_paired rE5) hin
            have hpl := pl_mem hpp
            obtain ⟨a, kv, rfl, ha, rkv⟩ := pd_at hat
            refine ⟨C.E, _, _, _, rfl, rfl, SqL.of eE5, hv, a, _, rfl, SqT.of ha, rfl, _, _, rfl, _, _, rfl, rfl, ?_⟩
            refine app_bound (κ := pp.2) (m := .same (.nm (C.W.nm pp.1))) (ds := [.s (C.W.nm pp.1)]) B5 (by omega) (by omega) (B5.good _ (List.mem_of_getElem? hpl)) (by exact rfl) (by exact rfl) (by exact rfl) (by exact mk_v rfl rkv) (by exact fun H2 tk => mk_cons (mk_vs rfl) mk_nil) rfl le_of_ble (.inl ⟨pp.1, hpl, rfl⟩) fun hs2 H6 st6 => ?_
            exact k _ _ _ ((S4.trans ((Stp.refl B5 (KpB.kp k5)).trans st6)).le (by decide) (by decide))
          · have B4 := (B3.same s3).same s4
            have S4 : Stp C 0 0 g hs H g hs J4 := Stp.refl B4 (K3.trans ((KpB.same s3).trans (KpB.same s4)))
            have hJ4 := s4 _ _ (s3 _ _ (s2 _ _ hJ))
            have ps4 : Paired (fun p v => Rep J4 (C.W.pd p) v) ((WW.pl g).filter fun p => p.2.isHold) sel := paired_mono (fun _ _ z => z.mono (TupK.same (s2.trans (s3.trans s4)))) ps
            have lsel : sel.length ≤ g.length := by
              rw [← paired_len ps4, ← pl_len g]
              exact List.length_filter_le _ _
            refine decS_if (by exact decS_rel (f := fun i j => decide (i < j)) rfl) (fun J5 s5 p5 => ?_) fun J5 s5 p5 => ?_
            · -- a thing put into a row
              have S5 : Stp C 0 0 g hs H g hs J5 := Stp.refl (B4.same s5) (S4.kp.trans (KpB.same s5))
              have hJ5 := s5 _ _ hJ4
              have ps5 : Paired (fun p v => Rep J5 (C.W.pd p) v) ((WW.pl g).filter fun p => p.2.isHold) sel := paired_mono (fun _ _ z => z.mono (TupK.same s5)) ps4
              refine ⟨_, rfl, M, rfl, ⟨_, SqL.of hJ5⟩, fun M2 hM2 => sel_it walk_list ps5 (fun _ => true) (fun p => p.2) (RR := fun J κ v => Rep J κ.d v) (fun tk z => z.mono tk) (by rw [paired_len ps5]; omega) (fun J s => SqL.of (s _ _ hJ5)) hM2 (fun p v J hp hv sJ A B c1 c2 => ?_) fun J6 sel2 hJ6 ps6 sJ6 => ?_⟩
              · obtain ⟨a, kv, rfl, ha, rkv⟩ := pd_at (hv.mono (TupK.same sJ))
                exact ⟨rfl, lc_yes ⟨_, rfl, a, _, 1, _, rfl, rfl, SqT.of ha, at_nat _ 1 rfl, c1 rfl _ J (Same.refl J) rkv⟩⟩
              · have nM2 := S5.bs.new hM2
                have hJM := sJ6 _ _ hJ5
                refine lst_use (by exact mk_cons mk_kn mk_nil) (Same.refl J6) le1000 fun X us J7 nX hX rX sX => ?_
                have B7 := (S5.bs.same sJ6).same sX
                have lX := Reps.len rX
                have p7 : Paired (fun κ v => Rep J7 κ.d v) (((((WW.pl g).filter fun p => p.2.isHold).filter fun _ => true).map fun p => p.2) ++ [Kd.num]) (sel2 ++ us) := paired_app (paired_mono (fun _ _ z => z.mono (TupK.same sX)) ps6) (reps_paired (xs := [Kd.num]) rX)
                have l2 : sel2.length = sel.length := by
                  rw [← paired_len ps6, List.length_map, List.filter_eq_self.mpr (fun _ _ => rfl), paired_len ps5]
                refine ⟨M2, X, _, _, rfl, rfl, sX _ _ hJ6, hX, sz1000 (by rw [l2, lX]; show _ + 1 ≤ 1000; omega), fun Y hY => ?_⟩
                have sY := Same.new (o := .lst (sel2 ++ us)) hY
                have aY := upd_same (H := J7) (a := Y) (o := .lst (sel2 ++ us))
                have B8 := B7.same sY
                have nY := B7.new hY
                have hJM8 := sY _ _ (sX _ _ hJM)
                generalize upd J7 Y (.lst (sel2 ++ us)) = J8 at sY aY B8 hJM8 ⊢
                have la : (sel2 ++ us).length = sel.length + 1 := by rw [List.length_append, l2, lX]; rfl
                refine ⟨_, rfl, _, rfl, M, _, rfl, .inl (SqL.of hJM8), _, _, rfl, rfl, C.d, C.l, _, rfl, B8.deal, by omega, by omega, fun r J9 r0 r1 D9 k9 => ?_⟩
                have B9 := B8.kp D9 k9
                have aY9 := k9 _ _ aY nY.1 nY.2.1
                obtain ⟨v, hv, hin⟩ := atI_in (xs := sel2 ++ us) r0 (by omega)
                obtain ⟨κ, hκ, hat⟩ := paired_mem p7 hin
                have rκ := hat.mono ((TupK.same sY).trans (TupK.kp B8.deal k9))
                have fκ : κ = .num ∨ (∃ k q, κ = .hold k q) ∧ κ ∈ g := by
                  rcases List.mem_append.mp hκ with hκ | hκ
                  · obtain ⟨pp, hpp, rfl⟩ := List.mem_map.mp hκ
                    have hpp := (List.mem_filter.mp hpp).1
                    obtain ⟨hpl, hh⟩ := List.mem_filter.mp hpp
                    refine .inr ⟨?_, List.mem_of_getElem? (pl_mem hpl)⟩
                    cases h : pp.2 with
                    | num => rw [h] at hh; cases hh
                    | nums => rw [h] at hh; cases hh
                    | holds _ _ => rw [h] at hh; cases hh
                    | hold a b => exact ⟨a, b, rfl⟩
                  · exact .inl (List.mem_singleton.mp hκ)
                have gκ : C.W.good κ := by
                  rcases fκ with rfl | h
                  · trivial
                  · exact B9.good _ h.2
                have S9 : Stp C 0 0 g hs H g hs J9 := Stp.refl B9 (S5.kp.trans ((KpB.same sJ6).trans ((KpB.same sX).trans ((KpB.same sY).trans (KpB.kp k9)))))
                refine ⟨Y, _, _, _, rfl, rfl, SqL.of aY9, hv, ?_⟩
                clear aY9 hv hin hat p7 B8 aY hJM8 sY B7 nX hX rX hJ6 ps6
                refine gN ?_
                dsimp only
                refine sA (oP (lst_use (by exact mk_cons (mk_holds (i := 11) (by exact rfl) rκ) (mk_cons (mk_tup (mk_cons mk_str mk_nil) le1000) mk_nil)) (Same.refl J9) le1000 fun X2 us2 J10 nX2 hX2 rX2 sX2 => ?_))
                have rκ2 := rκ.mono (TupK.same sX2)
                obtain ⟨v0, _, rfl, rv0, v1, _, rfl, rv1, e2⟩ := rX2
                cases (show _ = _ from e2)
                refine ⟨_, rfl, by show 1 ≤ sizeLine; decide, fun t ht => eqK (κ' := .num) (rκ2.mono (TupK.same (Same.new ht))) (Rep.new (ds := [.s "num"]) ht (Reps.cons rfl rfl)) (good_ok ok gκ) trivial (.inr ⟨_, rfl, ?_⟩)⟩
                have sT := Same.new (o := .tup [V.str ("num" : Str)]) ht
                generalize upd J10 t (.tup [V.str ("num" : Str)]) = J11 at sT ⊢
                have B11 := (B9.same sX2).same sT
                have K11 := KpB.same (C := C) (sX2.trans sT)
                have rκ11 := rκ2.mono (TupK.same sT)
                obtain ⟨rv, hrv, rrv⟩ : ∃ rv, atI [v0, v1] (if decide (κ = Kd.num) = true then (1 : Int) else 0) = some rv ∧ Rep J11 κ.rowOf.d rv := by
                  rcases fκ with rfl | ⟨⟨k, q, rfl⟩, _⟩
                  · exact ⟨v1, rfl, rv1.mono (TupK.same sT)⟩
                  · refine ⟨v0, ?_, rv0.mono (TupK.same sT)⟩
                    rw [if_neg (by simp)]; rfl
                refine ⟨X2, _, _, rv, rfl, rfl, SqL.of (sT _ _ hX2), hrv, ?_⟩
                have rrow : κ.rowOf.row := by
                  rcases fκ with rfl | ⟨⟨k, q, rfl⟩, _⟩ <;> trivial
                have grow : C.W.good κ.rowOf := by
                  rcases fκ with rfl | ⟨⟨k, q, rfl⟩, _⟩
                  · trivial
                  · exact gκ
                have thg : κ.rowOf.thing = κ := by
                  rcases fκ with rfl | ⟨⟨k, q, rfl⟩, _⟩ <;> rfl
                have S11 : Stp C 0 0 g hs H g hs J11 := Stp.refl B11 (S9.kp.trans K11)
                refine gN ?_
                refine sA (use_all (κs := [κ.rowOf, κ]) B11 (by exact rfl) (by exact rfl) (by exact rfl) (by exact rfl) (by exact mk_cons (mk_v rfl rrv) (mk_cons (mk_v rfl rκ11) mk_nil)) (fun κ1 h1 => ?_) le_of_ble (by show _ + 2 ≤ 82; omega) (by omega) (fun g' hs' H' st hno => ?_) fun as g' hs' p H' st pa hp => ?_)
                · simp only [List.mem_cons, List.not_mem_nil, or_false] at h1
                  rcases h1 with rfl | rfl
                  · exact grow
                  · exact gκ
                · exfalso
                  obtain ⟨κ1, h1, ⟨a, b, e⟩, hz⟩ := hno
                  simp only [List.mem_cons, List.not_mem_nil, or_false] at h1
                  rcases h1 with rfl | rfl
                  · rw [e] at rrow; exact rrow
                  · rcases fκ with h | h
                    · rw [h] at e; cases e
                    · exact hz h.2
                · cases pa with
                  | cons t1 pa => cases pa with
                    | cons t2 pa => cases pa with
                      | nil =>
                        rename_i rr aa
                        have hp : H' p = some (.tup [rr.v, aa.v]) := hp
                        have ln := st.len
                        have l2' : [κ.rowOf, κ].length = 2 := rfl
                        refine ⟨p, _, rfl, SqT.of hp, rfl, _, _, rfl, _, _, rfl, rfl, ?_⟩
                        refine ⟨_, rfl, _, rfl, _, rfl, C, g', hs', κ.rowOf, rv, rfl, st.bs, rrv.mono (B11.tk st.kp), grow, by omega, fun H2 B2 k2 => ?_⟩
                        obtain ⟨ul, eL, lL⟩ := B2.hl
                        refine ⟨_, rfl, .inl ⟨rfl, _, SqL.of eL⟩, ?_⟩
                        refine oP (lst_use (ds := [(Hd.bind (C.W.nm g'.length) (.put aa rr)).d, (Hd.bind (C.W.nm g'.length) (.last rr aa)).d]) (by exact mk_cons (mk_tup (mk_cons mk_str (mk_cons (mk_vs rfl) (mk_cons (mk_v rfl aa.rep) (mk_cons (mk_v rfl rr.rep) mk_nil)))) le1000) (mk_cons (mk_tup (mk_cons mk_str (mk_cons (mk_vs rfl) (mk_cons (mk_v rfl rr.rep) (mk_cons (mk_v rfl aa.rep) mk_nil)))) le1000) mk_nil)) (Same.refl H2) le1000 fun Z us3 J12 nZ hZ rZ sZ => ?_)
                        have B12 := B2.same sZ
                        have nZ' := B2.new nZ
                        refine ⟨_, rfl, C.d, C.l, 2, rfl, B12.deal, by decide, by decide, fun r H3 r0 r1 D3 k3 => ?_⟩
                        have B13 := B12.kp D3 k3
                        have hZ3 := k3 _ _ hZ nZ'.1 nZ'.2.1
                        have eL3 := k3 _ _ (sZ _ _ eL) B12.nd.2 B12.ne.2.1
                        have rZ3 := rZ.mono (TupK.kp B12.deal k3)
                        have K13 : KpB C H' H3 := k2.trans ((KpB.same sZ).trans (KpB.kp k3))
                        have m1 : MTy C.W g' κ.rowOf (.put aa rr) := ⟨rrow, by rw [thg]; exact t2, t1⟩
                        have m2 : MTy C.W g' κ.rowOf (.last rr aa) := ⟨rrow, t1, by rw [thg]; exact t2⟩
                        obtain ⟨w0, _, rfl, rw0, w1, _, rfl, rw1, e3⟩ := rZ3
                        cases (show _ = _ from e3)
                        have hr01 : r = 0 ∨ r = 1 := by omega
                        rcases hr01 with rfl | rfl
                        · refine ⟨Z, _, _, w0, rfl, rfl, SqL.of hZ3, rfl, C.L, ul, w0, rfl, rfl, eL3, small1000 (by omega), ?_⟩
                          exact k _ _ _ ((S11.trans (st.trans (Stp.bind K13 B13 m1 eL3 rw0))).le (by decide) (by show 0 + (2 + 1) ≤ 6; decide))
                        · refine ⟨Z, _, _, w1, rfl, rfl, SqL.of hZ3, rfl, C.L, ul, w1, rfl, rfl, eL3, small1000 (by omega), ?_⟩
                          exact k _ _ _ ((S11.trans (st.trans (Stp.bind K13 B13 m2 eL3 rw1))).le (by decide) (by show 0 + (2 + 1) ≤ 6; decide))
            · have S5 : Stp C 0 0 g hs H g hs J5 := Stp.refl (B4.same s5) (S4.kp.trans (KpB.same s5))
              have hJ5 := s5 _ _ hJ4
              refine decS_if (by exact decS_rel (f := fun i j => decide (i < j)) rfl) (fun J6 s6 p6 => ?_) fun J6 s6 p6 => ?_
              · -- an ask
                have S6 : Stp C 0 0 g hs H g hs J6 := Stp.refl (S5.bs.same s6) (S5.kp.trans (KpB.same s6))
                have fr := S6.bs.fr
                have lua : ua.length = C.W.as.length := by rw [Reps.len ra, List.length_map]
                have la := ok.al
                refine ⟨_, rfl, C.w, .ref pa, rfl, w_asks (fr _ _ h1), _, rfl, _, rfl, C.w, .ref pa, rfl, w_asks (fr _ _ h1), pa, ua, rfl, .inl (SqL.of (fr _ _ h3)), C.d, C.l, _, rfl, S6.bs.deal, by omega, by omega, fun r J7 r0 r1 D7 k7 => ?_⟩
                have B7 := S6.bs.kp D7 k7
                obtain ⟨v, hv, hin⟩ := atI_in r0 r1
                obtain ⟨aw, haw, hat⟩ := paired_mem (reps_paired ra) hin
                obtain ⟨p, va, vb, rfl, hp, rva, rvb⟩ := AW.at hat
                have ap := ok.ap aw haw
                refine ⟨pa, _, _, _, rfl, rfl, SqL.of (B7.fr _ _ h3), hv, p, _, rfl, SqT.of (B7.fr _ _ hp), rfl, _, _, rfl, _, _, rfl, _, _, rfl, rfl, ?_⟩
                refine use_have (κ := aw.of) B7 (by exact rfl) (by exact rfl) (by exact rfl) (by exact rfl) (by exact mk_v rfl (rva.mono (TupK.same B7.fr))) (plain_good ap.1) (plain_no ap.1) (by omega) (by omega) fun a g' hs' J8 st at1 => ?_
                have ln := st.len
                refine gN ?_
                dsimp only
                refine app_bound (κ := aw.gives) (m := .ask aw.nm a) (ds := [.s aw.nm, a.d]) st.bs (by omega) (by omega) (plain_good ap.2) (by exact rfl) (by exact rfl) (by exact rfl) (by exact mk_v rfl (rvb.mono (TupK.same st.bs.fr))) (by exact fun H2 tk => mk_cons (mk_vs rfl) (mk_cons (mk_v rfl a.rep) mk_nil)) rfl le_of_ble ⟨aw, haw, rfl, rfl, at1⟩ fun hs2 H9 st9 => ?_
                exact k _ _ _ ((S6.trans ((Stp.refl B7 (KpB.kp k7)).trans (st.trans st9))).le (by decide) (by decide))
              · have S6 : Stp C 0 0 g hs H g hs J6 := Stp.refl (S5.bs.same s6) (S5.kp.trans (KpB.same s6))
                have hJ6 := s6 _ _ hJ5
                refine decS_if (decS_or (by exact decS_rel (f := fun i j => decide (i < j)) rfl) fun J7 s7 _ => by exact decS_len (n := 0) rfl (s7 _ _ hJ6)) (fun J7 s7 p7 => ?_) fun J7 s7 p7 => ?_
                · -- a call or a keep
                  have S7 : Stp C 0 0 g hs H g hs J7 := Stp.refl (S6.bs.same s7) (S6.kp.trans (KpB.same s7))
                  exact ⟨_, rfl, _, rfl, _, rfl, _, rfl, _, rfl, C, g, hs, lt, rfl, S7.bs, by omega, by omega, fun g' hs' H' st => k g' hs' H' ((S7.trans st).le (by decide) (by decide))⟩
                · -- on with a hold
                  have S7 : Stp C 0 0 g hs H g hs J7 := Stp.refl (S6.bs.same s7) (S6.kp.trans (KpB.same s7))
                  have hJ7 := s7 _ _ hJ6
                  have ls : 0 < sel.length := Nat.pos_of_ne_zero fun z => p7 (.inr z)
                  refine ⟨_, rfl, _, rfl, _, rfl, M, _, rfl, .inl (SqL.of hJ7), C.d, C.l, _, rfl, S7.bs.deal, by omega, by omega, fun r J8 r0 r1 D8 k8 => ?_⟩
                  have B8 := S7.bs.kp D8 k8
                  have hJ8 := k8 _ _ hJ7 nM.1 nM.2.1
                  obtain ⟨v, hv, hin⟩ := atI_in r0 r1
                  obtain ⟨pp, hpp, hat⟩ := paired_mem ps4 hin
                  obtain ⟨hpp, hh⟩ := List.mem_filter.mp hpp
                  have hpl := pl_mem hpp
                  have hat8 := hat.mono ((TupK.same (s5.trans (s6.trans s7))).trans (TupK.kp S7.bs.deal k8))
                  obtain ⟨a, kv, rfl, ha, rkv⟩ := pd_at hat8
                  obtain ⟨i, κ⟩ := pp
                  cases κ with
                  | num => cases hh
                  | nums => cases hh
                  | holds _ _ => cases hh
                  | hold kn q =>
                    refine ⟨M, _, _, _, rfl, rfl, SqL.of hJ8, hv, a, _, rfl, SqT.of ha, rfl, _, _, rfl, _, _, rfl, rfl, ?_⟩
                    have gp : C.W.pair kn q := B8.good _ (List.mem_of_getElem? hpl)
                    exact ⟨_, rfl, _, rfl, _, rfl, _, rfl, _, rfl, _, rfl, C, g, hs, kn, q, C.W.nm i, kv, rfl, B8, rkv, gp, .inl ⟨i, hpl, rfl⟩, by omega, by omega, fun kw g0 hs' H' _ _ st => k _ hs' H' ((S7.trans ((Stp.refl B8 (KpB.kp k8)).trans st)).le (by decide) (by decide))⟩
end
end Ak
namespace Ak
open PySem L2
local macro_rules | `(tactic| walk_at "no attr") => `(tactic| exact rwF_no _ _ _ (by decide +kernel) (by decide +kernel) (by decide +kernel))
set_option maxHeartbeats 4000000
set_option pp.maxSteps 2000
/-! ### a body -/
abbrev st_l_body : Stmt := top 21
theorem sc_l_body : FnScope ["_law_deal_here", "_law_world", "_law_env", "_law_due", "_law_later", "_law_deep", "_law_heads_here", "_law_k", "_law_kind", "_law_rows", "_law_way", "_law_a", "_law_arms", "_law_r", "_law_one", "_law_thing", "_law_x", "_law_y", "_law_other", "_law_name"] ["_law_deal_here", "_law_world", "_law_env", "_law_due", "_law_later", "_law_deep"] (defScope st_l_body) := ⟨rfl, rfl, rfl, by decide +kernel, rfl, by decide +kernel, by decide +kernel⟩
/-- all but the box -/
def cutH (H : Hp) (d l : Addr) : Hp := fun b => if b = d ∨ b = l then none else H b
theorem cut_same (H : Hp) (d l : Addr) : Same (cutH H d l) H := fun b o e => by
  unfold cutH at e
  split at e
  · cases e
  · exact e
theorem cut_kp {H H' : Hp} {d l : Addr} (s : Same (cutH H d l) H') : Kp d l H H' := fun b o e h1 h2 => s b o (by unfold cutH; rw [if_neg (by rintro (z | z) <;> contradiction)]; exact e)
theorem cut_no (H : Hp) (d l : Addr) : cutH H d l d = none ∧ cutH H d l l = none := by
  unfold cutH
  exact ⟨if_pos (.inl rfl), if_pos (.inr rfl)⟩
theorem cut_none {H : Hp} {d l b : Addr} (h : H b = none) : cutH H d l b = none := by
  unfold cutH; split
  · rfl
  · exact h
theorem cut_mono {H H' : Hp} {d l : Addr} (k : Kp d l H H') : Same (cutH H d l) (cutH H' d l) := fun b o e => by
  unfold cutH at e ⊢
  split at e
  · cases e
  · rename_i h
    rw [if_neg h]
    exact k b o e (fun z => h (.inl z)) fun z => h (.inr z)
structure BB (d l w : Addr) (W : WW) (H : Hp) : Prop where
  ok : W.Ok
  wd : WAt (cutH H d l) w W
  deal : DealAt H d l
theorem BB.kp {d l w : Addr} {W : WW} {H H' : Hp} (b : BB d l w W H) (D : DealAt H' d l) (k : Kp d l H H') : BB d l w W H' := ⟨b.ok, b.wd.same (cut_mono k), D⟩
theorem BB.same {d l w : Addr} {W : WW} {H H' : Hp} (b : BB d l w W H) (s : Same H H') : BB d l w W H' := b.kp (b.deal.same s) (Kp.same s)
/-- lists of one's own for the names and the heads -/
theorem BB.bs {d l w E L : Addr} {W : WW} {H H' : Hp} (b : BB d l w W H) {g : List Kd} {us : List V} (s : Same H H') (hE : H E = none) (hL : H L = none) (ne : E ≠ L) (e : H' E = some (.lst us)) (r : Reps H (W.envD g) us) (h : H' L = some (.lst [])) (gd : ∀ κ ∈ g, W.good κ) : BS ⟨cutH H d l, d, l, w, E, L, W⟩ g [] H' := by
  have nE := b.deal.new hE
  have nL := b.deal.new hL
  exact ⟨b.ok, b.wd, (cut_same H d l).trans s, ⟨(cut_no H d l).1, (cut_no H d l).2, cut_none hE, cut_none hL⟩, b.deal.same s, ⟨nE.2, nL.2, ne⟩, ⟨us, e, r.mono (TupK.same s)⟩, ⟨[], h, rfl⟩, gd⟩
theorem BS.bb {d l w E L : Addr} {W : WW} {H H' : Hp} {g : List Kd} {hs : List Hd} (B : BS ⟨cutH H d l, d, l, w, E, L, W⟩ g hs H') : BB d l w W H' := ⟨B.ok, B.wd.same (fun b o e => by
  have this : H' b = some o := B.fr b o e
  have e : cutH H d l b = some o := e
  unfold cutH at e ⊢
  split at e
  · cases e
  · rename_i h
    rw [if_neg h]; exact this), B.deal⟩
def cD : Nat → Nat | 0 => 14 | 1 => 7 | _ => 3
def cS : Nat → Nat | 0 => 118 | 1 => 49 | _ => 16
def cG : Nat → Nat | 0 => 10 | 1 => 48 | _ => 69
def cP : Nat → Nat | 0 => 6 | 1 => 3 | _ => 2
abbrev ForG (J : It) (g : TG) (tb : TS) (D : Ends) (σ : L2.St) (H1 : Hp) : Prop := ∃ W : Nat → Nat → L2.St → Hp → Prop, (∃ m, W 0 m σ H1) ∧ ∀ i m σ H, W i m σ H → (J.stop i H ∧ D.nx σ H) ∨ (J.go i H ∧ ∃ N : L2.St → Hp → Prop, (∀ σ' H', N σ' H' → ∃ m', m' < m ∧ W (i + 1) m' σ' H') ∧ ∀ x H', J.yld i H x H' → g x σ H' fun σ2 H2 => tb { D with nx := N, ct := N, bk := D.nx } σ2 H2)
theorem sFor1 {te : TE} {g : TG} {tb u : TS} {D : Ends} {σ : L2.St} {H : Hp} (h : te σ H fun x H1 => ∃ j : Int, [x] = [V.int j] ∧ -(2 ^ 62) ≤ j ∧ j < 2 ^ 62 ∧ ForG (Itr 0 j.toNat) g tb { D with nx := u D } σ H1) : tSeq (tFor (iRng1 (tCons te tNil)) g tb) u D σ H := h
theorem cB1 {R : List V → Hp → VK → Prop} {te : TE} {σ : L2.St} {H : Hp} {Q : VK} (h : te σ H fun x H1 => R [x] H1 Q) : tCB R (tCons te tNil) σ H Q := h
theorem oC {r : R2} {v : V} {b : TE} {σ : L2.St} {H : Hp} {Q : VK} (h : b σ H fun y H2 => r v y H2 Q) : tOp r (tC v) b σ H Q := h
theorem andV_of {ta tb : TE} {σ : L2.St} {H : Hp} {a b : Bool} (ha : ∀ Q : VK, Q (.bl a) H → ta σ H Q) (hb : ∀ Q : VK, Q (.bl b) H → tb σ H Q) {Q : VK} (k : Q (.bl (a && b)) H) : tAndV ta tb σ H Q := ha _ ⟨a, rfl, by
  cases a with
  | false => exact k
  | true => exact hb _ k⟩
def spBody (n : Nat) : Sp := fun vs H Q _ => ∃ (d l w : Addr) (W : WW) (EA : Addr) (g : List Kd) (us : List V) (due : Kd) (dv : V) (lt dp : Nat), vs = [.ref d, .ref w, .ref EA, dv, .int (lt : Int), .int (dp : Int)] ∧ BB d l w W H ∧ H EA = some (.lst us) ∧ Reps H (W.envD g) us ∧ (∀ κ ∈ g, W.good κ) ∧ due.plain ∧ Rep H due.d dv ∧ dp ≤ 2 ∧ 3 ≤ dp + n ∧ g.length ≤ cG dp ∧
  ∀ (v : V) (b : Body) (H' : Hp), DealAt H' d l → Kp d l H H' → Rep H' b.d v → BTy W g due b → b.dep ≤ W.lack g + cD dp → b.size ≤ cS dp → Q v H'
/-- a body below, of the names that stand -/
theorem use_body {n : Nat} {F : Hp} {d l w E L : Addr} {W : WW} {g : List Kd} {hs : List Hd} {J : Hp} (B : BS ⟨F, d, l, w, E, L, W⟩ g hs J) (hF : F = cutH F d l) {due : Kd} {dv : V} {lt dp : Nat} {σ : L2.St} (e0 : σ[0]? = some (some (.ref d))) (e1 : σ[1]? = some (some (.ref w))) (e2 : σ[2]? = some (some (.ref E))) (e3 : σ[3]? = some (some dv)) (e4 : σ[4]? = some (some (.int (lt : Int)))) (e5 : σ[5]? = some (some (.int (dp : Int))))
    (pd : due.plain) (rd : Rep J due.d dv) (h1 : dp + 1 ≤ 2) (h2 : 3 ≤ dp + 1 + n) (h3 : g.length ≤ cG (dp + 1)) {Q : VK}
    (k : ∀ (v : V) (b : Body) (J' : Hp), BS ⟨F, d, l, w, E, L, W⟩ g hs J' → Kp d l J J' → Rep J' b.d v → BTy W g due b → b.dep ≤ W.lack g + cD (dp + 1) → b.size ≤ cS (dp + 1) → Q v J') :
    tCall (spBody n) [] L2.E0 (tCons (tVar 0) (tCons (tVar 1) (tCons (tVar 2) (tCons (tVar 3) (tCons (tVar 4) (tCons (tOp (rI0 fun i j => V.int (i + j)) (tVar 5) (tC (V.int 1))) tNil)))))) σ J Q := by
  obtain ⟨us, e, r⟩ := B.e
  have bb : BB d l w W J := ⟨B.ok, B.wd.same (fun b o h => by
    have h' : J b = some o := B.fr b o h
    have h : F b = some o := h
    rw [hF] at h
    unfold cutH at h ⊢
    split at h
    · cases h
    · rename_i c
      rw [if_neg c]; exact h'), B.deal⟩
  refine ⟨_, e0, _, e1, _, e2, _, e3, _, e4, _, e5, _, _, rfl, rfl, d, l, w, W, E, g, us, due, dv, lt, dp + 1, rfl, bb, e, r, B.good, pd, rd, h1, h2, h3, fun v b J' D' k' rv tb hd hz => ?_⟩
  exact k v b J' (B.kp D' k') k' rv tb hd hz
/-- heads put round -/
theorem use_closed {C : BC} {g' : List Kd} {hs : List Hd} {J : Hp} (B : BS C g' hs J) {b : Body} {te : TE} {σ : L2.St} {i : Nat} (e : σ[i]? = some (some (.ref C.L))) (hl : hs.length ≤ 1000) (mk : MkD te σ J b.d) {Q : VK} (k : ∀ u H', Same J H' → Rep H' (closeB hs b).d u → Q u H') : tCall spClosed [] L2.E0 (tCons (tVar i) (tCons te tNil)) σ J Q := by
  obtain ⟨us, e1, r1⟩ := B.h
  refine ⟨_, e, mk J (Same.refl J) _ fun v J1 s1 rv => ⟨C.L, v, us, hs.map fun h => (h.tag, h.rest), b.pt, rfl, s1 _ _ e1, ?_, ?_, by rw [List.length_map]; exact hl, by rw [Body.pt_d]; exact rv, fun u H' ru s2 => ?_⟩⟩
  · rw [List.map_map]
    exact r1.mono (TupK.same s1)
  · intro h hh
    obtain ⟨x, _, rfl⟩ := List.mem_map.mp hh
    exact x.rest_len
  · refine k u H' (s1.trans s2) ?_
    rw [← Body.pt_d, close_pt]; exact ru
theorem mk_ix {K : PySem.W.Frag} {σ : L2.St} {H0 : Hp} {i : Nat} {p : Addr} {xs : List V} {n : Int} {v : V} {d : D} (e : σ[i]? = some (some (.ref p))) (h : H0 p = some (.lst xs)) (a : atI xs n = some v) (r : Rep H0 d v) : MkD (tOp (rIxL K) (tVar i) (tC (.int n))) σ H0 d := fun H s Q k => ⟨_, e, p, xs, n, v, rfl, rfl, SqL.of (s _ _ h), a, k v H (Same.refl H) (r.mono (TupK.same s))⟩
theorem hty_close {W : WW} {C : BC} {g g' : List Kd} {hs : List Hd} {c m : Nat} {H H' : Hp} (hW : C.W = W) (st : Stp C c m g [] H g' hs H') {due : Kd} {b : Body} (h : BTy W g' due b) : BTy W g due (closeB hs b) := by
  obtain ⟨x, ms, rfl, rfl, _, t, _⟩ := st.ht
  rw [hW] at t
  exact HTy.close t h
theorem stp_sz {W : WW} {C : BC} {g g' : List Kd} {hs : List Hd} {c m : Nat} {H H' : Hp} (hW : C.W = W) (st : Stp C c m g [] H g' hs H') : hs.length + W.lack g' ≤ W.lack g + c ∧ hs.length ≤ 13 + c := by
  obtain ⟨x, ms, _, e, _, t, k⟩ := st.ht
  have e : hs = ms := e
  have := lack_le st.bs.ok g
  rw [hW] at k this
  rw [e]
  exact ⟨k, by omega⟩
section
variable {P : Program} {w : World} {K : PySem.W.Frag} {mg : Str → Option Value} {base : Heap} {f1 f2 f3 f4 f5 f6 : Addr} {d1 d2 d3 d4 d5 d6 : FuncData}
theorem ok_l_body {f : Addr} {fd : FuncData} (D_l_body : Fn K mg "_law_body" st_l_body ["_law_deal_here", "_law_world", "_law_env", "_law_due", "_law_later", "_law_deep"] f fd) (T : BltB mg) (D_l_draw : Fn K mg "_law_draw" st_l_draw ["_law_deal_here", "_law_many"] f3 d3) (G_l_draw : FnOk P w K mg base CX0 1 f3 d3 ["_law_deal_here", "_law_many"] spDraw) (D_l_piece : Fn K mg "_law_piece" st_l_piece ["_law_deal_here", "_law_world", "_law_env", "_law_heads_here", "_law_later"] f1 d1) (G_l_piece : FnOk P w K mg base CX0 5 f1 d1 ["_law_deal_here", "_law_world", "_law_env", "_law_heads_here", "_law_later"] spPiece)
    (D_l_bound : Fn K mg "_law_bound" st_l_bound ["_law_world", "_law_env", "_law_kind"] f2 d2) (G_l_bound : FnOk P w K mg base CX0 1 f2 d2 ["_law_world", "_law_env", "_law_kind"] spBound) (D_l_have : Fn K mg "_law_have" st_l_have ["_law_deal_here", "_law_world", "_law_env", "_law_kind", "_law_heads_here"] f4 d4) (G_l_have : FnOk P w K mg base CX0 2 f4 d4 ["_law_deal_here", "_law_world", "_law_env", "_law_kind", "_law_heads_here"] spHave)
    (D_l_call_piece : Fn K mg "_law_call_piece" st_l_call_piece ["_law_deal_here", "_law_world", "_law_env", "_law_heads_here", "_law_later"] f5 d5) (G_l_call_piece : FnOk P w K mg base CX0 4 f5 d5 ["_law_deal_here", "_law_world", "_law_env", "_law_heads_here", "_law_later"] spCallP) (D_l_closed : Fn K mg "_law_closed" st_l_closed ["_law_heads_here", "_law_body_here"] f6 d6) (G_l_closed : FnOk P w K mg base CX0 1 f6 d6 ["_law_heads_here", "_law_body_here"] spClosed) : ∀ n : Nat, FnOk P w K mg base CX0 (5 + n) f fd ["_law_deal_here", "_law_world", "_law_env", "_law_due", "_law_later", "_law_deep"] (spBody n)
  | 0 => D_l_body.F.ok sc_l_body (fun vs H Q E h => by
      obtain ⟨d, l, w, W, EA, g, us, due, dv, lt, dp, rfl, _⟩ := h
      rfl) (fun cdv A outer s H vs Q E hr h => by
      obtain ⟨d, l, w, W, EA, g, us, due, dv, lt, dp, rfl, _, _, _, _, _, _, h1, h2, _⟩ := h
      omega)
  | n + 1 => by
    have G_l_body := ok_l_body D_l_body T D_l_draw G_l_draw D_l_piece G_l_piece D_l_bound G_l_bound D_l_have G_l_have D_l_call_piece G_l_call_piece D_l_closed G_l_closed n
    refine D_l_body.F.ok sc_l_body (fun vs H Q E h => ?_) (fun cdv A outer s H vs Q E hr h => ?_)
    · obtain ⟨d, l, w, W, EA, g, us, due, dv, lt, dp, rfl, _⟩ := h
      rfl
    · obtain ⟨d, l, ww, W, EA, g, us, due, dv, lt, dp, rfl, BB0, hE0, rE0, gd, pdue, rdue, hdp, hn, hgl, k⟩ := h
      refine ⟨_, (pss_cons (ps_set (i := 2) sc_l_body.nd rfl (Or.inr rfl) (pe_callTy call_list_of (by rfl) T.list (by decide +kernel) (pa_cons (pv 2) pa_nil)))
      (pss_cons (ps_set (i := 6) sc_l_body.nd rfl (Or.inl rfl) (pe_lst pa_nil))
      (pss_cons (ps_for PassesOwn.never rfl (pi_range1 rfl T.range (pa_cons (pe_op op_mul pe_int (pe_callTy call_int1 (by rfl) T.int (by decide +kernel) (pa_cons (pe_and (pe_cmpR op_eq (pv 4) pe_int (nomark _)) (pe_one (pe_cmpR op_eq (pv 5) pe_int (nomark _)))) pa_nil))) pa_nil)) (pg_name (i := 7) sc_l_body.nd rfl (Or.inl rfl)) (pss_one (ps_expr (pe_call G_l_call_piece (hr.mono (by show _ ≤ 5 + n; omega)) rfl D_l_call_piece.mg D_l_call_piece.kp D_l_call_piece.b .nil pass0 (pa_cons (pv 0) (pa_cons (pv 1) (pa_cons (pv 2) (pa_cons (pv 6) (pa_cons pe_int pa_nil)))))))))
      (pss_cons (ps_for PassesOwn.never rfl (pi_range1 rfl T.range (pa_cons (pe_call G_l_draw (hr.mono (by show _ ≤ 5 + n; omega)) rfl D_l_draw.mg D_l_draw.kp D_l_draw.b .nil pass0 (pa_cons (pv 0) (pa_cons (pe_ix ix_list (pe_lst (pa_cons pe_int (pa_cons pe_int (pa_cons pe_int pa_nil)))) (pv 5) (fun _ _ => rfl)) pa_nil))) pa_nil)) (pg_name (i := 7) sc_l_body.nd rfl (Or.inl rfl)) (pss_one (ps_expr (pe_call G_l_piece (hr.mono (by show _ ≤ 5 + n; omega)) rfl D_l_piece.mg D_l_piece.kp D_l_piece.b .nil pass0 (pa_cons (pv 0) (pa_cons (pv 1) (pa_cons (pv 2) (pa_cons (pv 6) (pa_cons (pv 4) pa_nil)))))))))
      (pss_cons (ps_setLc (i := 9) (own := [("_law_name", 19), ("_law_kind", 8)]) (g := gTup K 2 (gCons (gName 19) (gCons (gName 8) (gNil)))) (tt := tTest (tOp (rIn K false) (tOp (rIxT K) (tVar 8) (tC (V.int 0))) (tTup (tCons (tC (V.str "nums")) (tCons (tC (V.str "holds")) tNil))))) (te := (tTup (tCons (tVar 19) (tCons (tVar 8) tNil)))) rfl sc_l_body.nd rfl rfl (sw_true rfl rfl rfl (by decide +kernel)) (pi_list (pv 2)) (blkOk_by (own := [("_law_name", 19), ("_law_kind", 8)]) (N := ["_law_deal_here", "_law_world", "_law_env", "_law_due", "_law_later", "_law_deep", "_law_heads_here", "_law_k", "_law_kind", "_law_rows", "_law_way", "_law_a", "_law_arms", "_law_r", "_law_one", "_law_thing", "_law_x", "_law_y", "_law_other", "_law_name"]) (sc := defScope st_l_body) (by decide +kernel)) (fun _ _ _ _ _ => (pg_tup (by rfl) (pgs_cons (pg_name (i := 19) sc_l_body.nd rfl (Or.inl rfl)) (pgs_cons (pg_name (i := 8) sc_l_body.nd rfl (Or.inl rfl)) pgs_nil)))) (fun _ _ _ _ _ => (pts_one (pt_cmpR op_in_seq (pe_ix ix_tup (pv 8) pe_int (fun _ _ => rfl)) (pe_tup (pa_cons pe_str (pa_cons pe_str pa_nil))) (by rfl)))) (fun _ _ _ _ _ => (pe_tup (pa_cons (pv 19) (pa_cons (pv 8) pa_nil)))))
      (pss_cons (ps_set (i := 10) sc_l_body.nd rfl (Or.inl rfl) (pe_op op_mul (pe_call G_l_draw (hr.mono (by show _ ≤ 5 + n; omega)) rfl D_l_draw.mg D_l_draw.kp D_l_draw.b .nil pass0 (pa_cons (pv 0) (pa_cons pe_int pa_nil))) (pe_callTy call_int1 (by rfl) T.int (by decide +kernel) (pa_cons (pe_cmpR op_lt (pv 5) pe_int (nomark _)) pa_nil))))
      (pss_cons (ps_if (pt_cmpR op_eq (pv 10) pe_int (nomark _)) (pss_cons (ps_set (i := 11) sc_l_body.nd rfl (Or.inl rfl) (pe_call G_l_have (hr.mono (by show _ ≤ 5 + n; omega)) rfl D_l_have.mg D_l_have.kp D_l_have.b .nil pass0 (pa_cons (pv 0) (pa_cons (pv 1) (pa_cons (pv 2) (pa_cons (pe_tup (pa_cons pe_str pa_nil)) (pa_cons (pv 6) pa_nil)))))))
      (pss_cons (ps_setLc (i := 12) (own := [("_law_k", 7)]) (g := gName 7) (tt := tYes) (te := (tCall (spBody n) [] E0 (tCons (tVar 0) (tCons (tVar 1) (tCons (tVar 2) (tCons (tVar 3) (tCons (tVar 4) (tCons (tOp (rI0 fun i j => V.int (i + j)) (tVar 5) (tC (V.int 1))) tNil)))))))) rfl sc_l_body.nd rfl rfl (sw_true rfl rfl rfl (by decide +kernel)) (pi_range1 rfl T.range (pa_cons pe_int pa_nil)) (blkOk_by (own := [("_law_k", 7)]) (N := ["_law_deal_here", "_law_world", "_law_env", "_law_due", "_law_later", "_law_deep", "_law_heads_here", "_law_k", "_law_kind", "_law_rows", "_law_way", "_law_a", "_law_arms", "_law_r", "_law_one", "_law_thing", "_law_x", "_law_y", "_law_other", "_law_name"]) (sc := defScope st_l_body) (by decide +kernel)) (fun _ _ _ _ _ => (pg_name (i := 7) sc_l_body.nd rfl (Or.inl rfl))) (fun _ _ _ _ _ => pts_nil) (fun _ _ _ _ _ => (pe_call G_l_body (hr.mono (by show _ ≤ 5 + n; omega)) rfl D_l_body.mg D_l_body.kp D_l_body.b .nil pass0 (pa_cons (pv 0) (pa_cons (pv 1) (pa_cons (pv 2) (pa_cons (pv 3) (pa_cons (pv 4) (pa_cons (pe_op op_add (pv 5) pe_int) pa_nil)))))))))
      (pss_one (ps_ret (pe_call G_l_closed (hr.mono (by show _ ≤ 5 + n; omega)) rfl D_l_closed.mg D_l_closed.kp D_l_closed.b .nil pass0 (pa_cons (pv 6) (pa_cons (pe_tup (pa_cons pe_str (pa_cons (pv 11) (pa_cons (pe_ix ix_list (pv 12) pe_int (fun _ _ => rfl)) (pa_cons (pe_ix ix_list (pv 12) pe_int (fun _ _ => rfl)) pa_nil))))) pa_nil))))))) pss_nil)
      (pss_cons (ps_if (PW.pt (pw_and (pt_cmpR op_eq (pv 10) pe_int (nomark _)) (pw_and1 (pt_cmpR op_gt (pe_callB call_len_seq (by rfl) T.len (by decide +kernel) (pa_cons (pv 9) pa_nil)) pe_int (nomark _))))) (pss_cons (ps_asg (pe_ix ix_list (pv 9) (pe_call G_l_draw (hr.mono (by show _ ≤ 5 + n; omega)) rfl D_l_draw.mg D_l_draw.kp D_l_draw.b .nil pass0 (pa_cons (pv 0) (pa_cons (pe_callB call_len_seq (by rfl) T.len (by decide +kernel) (pa_cons (pv 9) pa_nil)) pa_nil))) (fun _ _ => rfl)) (pg_tup (by rfl) (pgs_cons (pg_name (i := 13) sc_l_body.nd rfl (Or.inl rfl)) (pgs_cons (pg_name (i := 8) sc_l_body.nd rfl (Or.inl rfl)) pgs_nil))))
      (pss_cons (ps_set (i := 14) sc_l_body.nd rfl (Or.inl rfl) (pe_call G_l_body (hr.mono (by show _ ≤ 5 + n; omega)) rfl D_l_body.mg D_l_body.kp D_l_body.b .nil pass0 (pa_cons (pv 0) (pa_cons (pv 1) (pa_cons (pv 2) (pa_cons (pv 3) (pa_cons (pv 4) (pa_cons (pe_op op_add (pv 5) pe_int) pa_nil))))))))
      (pss_cons (ps_set (i := 15) sc_l_body.nd rfl (Or.inl rfl) (pe_ix ix_list (pe_lst (pa_cons (pe_op op_catA (pe_tup (pa_cons pe_str pa_nil)) (pe_slice sl_tupA (pv 8) (po_some pe_int) po_none)) (pa_cons (pe_tup (pa_cons pe_str pa_nil)) pa_nil))) (pe_callTy call_int1 (by rfl) T.int (by decide +kernel) (pa_cons (pe_cmpR (op_eqD hr.units) (pv 8) (pe_tup (pa_cons pe_str pa_nil)) (nomark _)) pa_nil)) (fun _ _ => rfl)))
      (pss_cons (ps_par (i := 16) (j := 17) (by rfl) sc_l_body.nd rfl rfl (by decide) rfl rfl (pa_cons (pe_call G_l_bound (hr.mono (by show _ ≤ 5 + n; omega)) rfl D_l_bound.mg D_l_bound.kp D_l_bound.b .nil pass0 (pa_cons (pv 1) (pa_cons (pv 2) (pa_cons (pv 15) pa_nil)))) (pa_cons (pe_call G_l_bound (hr.mono (by show _ ≤ 5 + n; omega)) rfl D_l_bound.mg D_l_bound.kp D_l_bound.b .nil pass0 (pa_cons (pv 1) (pa_cons (pv 2) (pa_cons (pv 8) pa_nil)))) pa_nil)) (by rfl))
      (pss_cons (ps_set (i := 18) sc_l_body.nd rfl (Or.inl rfl) (pe_call G_l_body (hr.mono (by show _ ≤ 5 + n; omega)) rfl D_l_body.mg D_l_body.kp D_l_body.b .nil pass0 (pa_cons (pv 0) (pa_cons (pv 1) (pa_cons (pv 2) (pa_cons (pv 3) (pa_cons (pv 4) (pa_cons (pe_op op_add (pv 5) pe_int) pa_nil))))))))
      (pss_one (ps_ret (pe_call G_l_closed (hr.mono (by show _ ≤ 5 + n; omega)) rfl D_l_closed.mg D_l_closed.kp D_l_closed.b .nil pass0 (pa_cons (pv 6) (pa_cons (pe_tup (pa_cons pe_str (pa_cons (pv 13) (pa_cons (pv 14) (pa_cons (pv 16) (pa_cons (pv 17) (pa_cons (pv 18) pa_nil))))))) pa_nil)))))))))) pss_nil)
      (pss_cons (ps_set (i := 11) sc_l_body.nd rfl (Or.inl rfl) (pe_call G_l_have (hr.mono (by show _ ≤ 5 + n; omega)) rfl D_l_have.mg D_l_have.kp D_l_have.b .nil pass0 (pa_cons (pv 0) (pa_cons (pv 1) (pa_cons (pv 2) (pa_cons (pv 3) (pa_cons (pv 6) pa_nil)))))))
      (pss_one (ps_ret (pe_call G_l_closed (hr.mono (by show _ ≤ 5 + n; omega)) rfl D_l_closed.mg D_l_closed.kp D_l_closed.b .nil pass0 (pa_cons (pv 6) (pa_cons (pe_tup (pa_cons pe_str (pa_cons (pv 11) pa_nil))) pa_nil)))))))))))))), ?_⟩
      have ok := BB0.ok
      refine ⟨_, rfl, EA, us, rfl, .inl (SqL.of hE0), fun E hE => ?_⟩
      have sE := Same.new (o := .lst us) hE
      have aE := upd_same (H := H) (a := E) (o := .lst us)
      generalize upd H E (.lst us) = J1 at sE aE ⊢
      refine ⟨Nat.zero_le _, fun L hL => ?_⟩
      have sL := Same.new (o := .lst []) hL
      have aL := upd_same (H := J1) (a := L) (o := .lst [])
      have nEL : E ≠ L := ne_of_none aE hL
      have hL0 : H L = none := sE.free hL
      have B0 := BB0.bs (sE.trans sL) hE hL0 nEL (sL _ _ aE) rE0 aL gd
      have rdue0 := rdue.mono (TupK.same (sE.trans sL))
      have kp0 : Kp d l H (upd J1 L (.lst [])) := Kp.same (sE.trans sL)
      dsimp only
      generalize upd J1 L (.lst []) = J2 at B0 rdue0 kp0 ⊢
      clear sE aE sL aL
      refine gN ?_
      refine sFor1 (oC (cB1 (andV_of (a := decide (V.int (lt : Int) = V.int 1)) (b := decide (V.int (dp : Int) = V.int 0)) (by exact fun Q h => ⟨_, rfl, rfl, h⟩) (by exact fun Q h => ⟨_, rfl, rfl, h⟩) (.inr ⟨_, rfl, ?_⟩))))
      generalize hc2 : (decide (V.int (lt : Int) = V.int 1) && decide (V.int (dp : Int) = V.int 0)) = c
      have hc0 : c = true → dp = 0 := fun z => by
        rw [z, Bool.and_eq_true] at hc2
        have := V.int.inj (of_decide_eq_true hc2.2)
        omega
      have hF : cutH H d l = cutH (cutH H d l) d l := by
        funext b; unfold cutH; split <;> rfl
      obtain ⟨n1, hn1, hn2⟩ : ∃ n1 : Nat, ((2 : Int) * (if c = true then (1 : Int) else 0)).toNat = n1 ∧ ((n1 = 0 ∨ (n1 = 2 ∧ dp = 0)) ∧ 0 ≤ (2 : Int) * (if c = true then (1 : Int) else 0) ∧ (2 : Int) * (if c = true then (1 : Int) else 0) ≤ 2) := by
        cases c with
        | false => exact ⟨0, rfl, .inl rfl, by decide, by decide⟩
        | true => exact ⟨2, rfl, .inr ⟨rfl, hc0 rfl⟩, by decide, by decide⟩
      refine ⟨_, _, rfl, rfl, .inl ⟨by omega, by omega⟩, _, rfl, by omega, by omega, for_range (lo := 0) (n := ((2 : Int) * (if c = true then (1 : Int) else 0)).toNat) (fun i σ J => ∃ (g1 : List Kd) (h1 : List Hd) (o7 : Option V), Stp ⟨cutH H d l, d, l, ww, E, L, W⟩ i (6 * i) g [] J2 g1 h1 J ∧ σ = [some (.ref d), some (.ref ww), some (.ref E), some dv, some (.int (lt : Int)), some (.int (dp : Int)), some (.ref L), o7, none, none, none, none, none, none, none, none, none, none, none, none]) ⟨g, [], _, Stp.refl B0 (KpB.refl _ _), rfl⟩ (fun i σ J hi q => ?_) fun σ J q => ?_⟩
      · obtain ⟨g1, h1, o7, st, rfl⟩ := q
        rw [hn1] at hi
        have ln := st.len
        rw [List.length_nil] at ln
        have hg0 : cG 0 = 10 := rfl
        rcases hn2.1 with z | ⟨z, zd⟩
        · omega
        · rw [zd, hg0] at hgl
          exact ⟨_, rfl, _, rfl, _, rfl, _, rfl, _, g1, h1, 1, rfl, st.bs, by omega, by omega, fun g' hs' H' s2 => ⟨g', hs', _, (st.trans s2).le (by omega) (by omega), rfl⟩⟩
      · obtain ⟨g1, h1, o7, st, rfl⟩ := q
        rw [hn1] at st
        have hP : n1 + (4 - dp) ≤ cP dp := by
          have : dp = 0 ∨ dp = 1 ∨ dp = 2 := by omega
          rcases this with rfl | rfl | rfl
          · show n1 + 4 ≤ 6; omega
          · show n1 + 3 ≤ 3; omega
          · show n1 + 2 ≤ 2; omega
        have hGP : cG dp + 6 * cP dp ≤ 81 := by
          have : dp = 0 ∨ dp = 1 ∨ dp = 2 := by omega
          rcases this with rfl | rfl | rfl <;> decide
        have hm5 : atI [V.int 5, V.int 4, V.int 3] (dp : Int) = some (.int (5 - (dp : Int))) := by
          have : dp = 0 ∨ dp = 1 ∨ dp = 2 := by omega
          rcases this with rfl | rfl | rfl <;> rfl
        refine ⟨_, rfl, by show 3 ≤ sizeLine; decide, fun X hX => ⟨_, rfl, X, _, _, _, rfl, rfl, SqL.of upd_same, hm5, d, l, _, rfl, (st.bs.same (Same.new hX)).deal, by omega, by omega, fun r J3 r0 r1 D3 k3 => ?_⟩⟩
        have B3 := (st.bs.same (Same.new hX)).kp D3 k3
        have K3 : KpB ⟨cutH H d l, d, l, ww, E, L, W⟩ J J3 := (KpB.same (Same.new hX)).trans (KpB.kp k3)
        have st3 := st.trans (Stp.refl B3 K3)
        refine ⟨r, rfl, by omega, by omega, for_range (lo := 0) (n := r.toNat) (fun i σ J => ∃ (g1 : List Kd) (h1 : List Hd) (o7 : Option V), Stp ⟨cutH H d l, d, l, ww, E, L, W⟩ (n1 + i) (6 * (n1 + i)) g [] J2 g1 h1 J ∧ σ = [some (.ref d), some (.ref ww), some (.ref E), some dv, some (.int (lt : Int)), some (.int (dp : Int)), some (.ref L), o7, none, none, none, none, none, none, none, none, none, none, none, none]) ⟨g1, h1, _, st3.le (by omega) (by omega), rfl⟩ (fun i σ J hi q => ?_) fun σ J q => ?_⟩
        · obtain ⟨g2, h2, o7, st2, rfl⟩ := q
          have ln := st2.len
          rw [List.length_nil] at ln
          exact ⟨_, rfl, _, rfl, _, rfl, _, rfl, _, rfl, _, g2, h2, lt, rfl, st2.bs, by omega, by omega, fun g' hs' H' s2 => ⟨g', hs', _, (st2.trans s2).le (by omega) (by omega), rfl⟩⟩
        · clear st3 K3 B3 D3 k3 st hm5
          obtain ⟨g3, h3, o7, st3, rfl⟩ := q
          have st3 := st3.le (c' := cP dp) (m' := 6 * cP dp) (by omega) (by omega)
          clear hP hn1 hn2 hc2 hc0 r0 r1 hX
          have sz3 := stp_sz (W := W) rfl st3
          have ln3 := st3.len
          rw [List.length_nil] at ln3
          have B3 := st3.bs
          have K3 := st3.kp
          obtain ⟨uE, eE, rE⟩ := B3.e
          rw [pl_env] at rE
          refine ⟨_, rfl, E, rfl, ⟨_, SqL.of eE⟩, fun M hM => sel_it walk_list (reps_paired rE) (fun p => decide p.2.row) id (RR := fun J p v => Rep J (W.pd p) v) (fun tk z => z.mono tk) (by rw [pl_len]; omega) (fun J s => SqL.of (s _ _ eE)) hM (fun p v J4 hp hv sJ A B c1 c2 => ?_) fun J4 sel hJ4 ps sJ => ?_⟩
          · obtain ⟨a, kv, rfl, ha, rkv⟩ := pd_at (hv.mono (TupK.same sJ))
            refine ⟨a, _, rfl, SqT.of ha, rfl, _, _, rfl, _, _, rfl, rfl, rfl, ?_⟩
            refine decS_row (i := 8) (by exact rfl) rkv _ (fun J5 s5 p5 => ?_) fun J5 s5 p5 => ?_
            · show (if true = true then _ else _)
              rw [if_pos rfl]
              refine ⟨_, rfl, _, rfl, by show 2 ≤ sizeLine; decide, fun t ht => c1 (decide_eq_true p5) _ _ (s5.trans (Same.new ht)) ?_⟩
              exact Rep.new (ds := [.s (W.nm p.1), p.2.d]) ht (Reps.cons rfl (Reps.cons (rkv.mono (TupK.same s5)) rfl))
            · show (if false = true then _ else _)
              rw [if_neg (by decide)]
              exact c2 (decide_eq_false p5) _ s5
          · rw [List.map_id] at ps
            have B4 := B3.same sJ
            have K4 := K3.trans (KpB.same (C := ⟨cutH H d l, d, l, ww, E, L, W⟩) sJ)
            have st4 : Stp ⟨cutH H d l, d, l, ww, E, L, W⟩ (cP dp) (6 * cP dp) g [] J2 g3 h3 J4 := st3.trans (Stp.refl B4 (KpB.same sJ))
            have nM := B3.new hM
            refine gN ?_
            refine ⟨_, rfl, d, l, 6, rfl, B4.deal, by decide, by decide, fun r J5 r0 r1 D5 k5 => ⟨_, rfl, _, _, rfl, rfl, .inr ⟨_, rfl, _, _, rfl, rfl, .inl ⟨by omega, ?_⟩, ?_⟩⟩⟩
            · omega
            have B5 := B4.kp D5 k5
            have st5 : Stp ⟨cutH H d l, d, l, ww, E, L, W⟩ (cP dp) (6 * cP dp) g [] J2 g3 h3 J5 := st4.trans (Stp.refl B5 (KpB.kp k5))
            have hJ5 := k5 _ _ hJ4 nM.1 nM.2.1
            have ps5 : Paired (fun p v => Rep J5 (W.pd p) v) ((WW.pl g3).filter fun p => decide p.2.row) sel := paired_mono (fun _ _ z => z.mono (TupK.kp B4.deal k5)) ps
            have hway : (r * (if decide ((dp : Int) < 2) = true then (1 : Int) else 0) = 4 ∨ r * (if decide ((dp : Int) < 2) = true then (1 : Int) else 0) = 5) → dp + 1 ≤ 2 := fun z => by
              by_cases c : (dp : Int) < 2
              · omega
              · rw [if_neg (by simpa using c)] at z; omega
            have rdue5 := rdue0.mono (B0.tk st5.kp)
            have kp5 : Kp d l H J5 := cut_kp B5.fr
            have fin : ∀ (g' : List Kd) (c m : Nat) (hs' : List Hd) (J : Hp) (b : Body), Stp ⟨cutH H d l, d, l, ww, E, L, W⟩ c m g [] J2 g' hs' J → BTy W g' due b → hs'.length + b.dep ≤ W.lack g + cD dp → hs'.length + b.size ≤ cS dp → ∀ J' u, Same (cutH H d l) J' → DealAt J' d l → Rep J' (closeB hs' b).d u → Q u J' := fun g' c m hs' J b st tb q1 q2 J' u sF D' ru => k u (closeB hs' b) J' D' (cut_kp sF) ru (hty_close (W := W) rfl st tb) (by rw [close_dep]; exact q1) (by rw [close_size]; exact q2)
            clear K3 B3 eE rE ps hJ4 B4 K4 st4 k5 D5 sJ
            refine gN ?_
            dsimp only
            refine decS_if (by exact decS_eqI rfl) (fun J6 s6 p6 => ?_) fun J6 s6 p6 => ?_
            · -- an if
              have B6 := B5.same s6
              have st6 : Stp ⟨cutH H d l, d, l, ww, E, L, W⟩ (cP dp) (6 * cP dp) g [] J2 g3 h3 J6 := st5.trans (Stp.refl B6 (KpB.same s6))
              have hd1 := hway (.inl p6)
              have hcD : cP dp + cD (dp + 1) + 1 ≤ cD dp ∧ 13 + cP dp + 1 + 2 * cS (dp + 1) ≤ cS dp ∧ cG dp + 6 * cP dp + 2 ≤ cG (dp + 1) ∧ cG (dp + 1) ≤ 69 := by
                have : dp = 0 ∨ dp = 1 := by omega
                rcases this with rfl | rfl <;> decide
              refine sA (use_have (κ := .num) B6 (by exact rfl) (by exact rfl) (by exact rfl) (by exact rfl) (by exact mk_kn) trivial num_no (by omega) (by omega) fun a g4 h4 J7 st7 at7 => ?_)
              have st9 := st6.trans st7
              have sz9 := stp_sz (W := W) rfl st9
              have ln9 := st9.len
              have kp7 : Kp d l H J7 := cut_kp st7.bs.fr
              have rdue7 := rdue5.mono ((TupK.same s6).trans (B6.tk st7.kp))
              refine gN ?_
              refine ⟨2, rfl, by decide, by decide, fun N hN => lc_range (lo := 0) (n := 2) (fun i J => ∃ vs : List V, J N = some (.lst vs) ∧ vs.length = i ∧ (∀ v ∈ vs, ∃ b : Body, Rep J b.d v ∧ BTy W g4 due b ∧ b.dep ≤ W.lack g4 + cD (dp + 1) ∧ b.size ≤ cS (dp + 1)) ∧ DealAt J d l ∧ Kp d l J7 J) ⟨[], upd_same, rfl, (fun _ z => nomatch z), st7.bs.deal.same (Same.new hN), Kp.same (Same.new hN)⟩ (fun i J hi q => ?_) fun J q => ?_⟩
              · obtain ⟨vs, hJN, lv, hv, DJ, kJ⟩ := q
                have BJ := st7.bs.kp DJ kJ
                have nN := st7.bs.new hN
                refine ⟨rfl, lc_yes ?_⟩
                refine use_body BJ hF (by exact rfl) (by exact rfl) (by exact rfl) (by exact rfl) (by exact rfl) (by exact rfl) pdue (rdue7.mono (TupK.kp st7.bs.deal kJ)) hd1 (by omega) (by omega) fun v b J8 B8 k8 rv tb hdb hzb => ?_
                have hN8 := k8 _ _ hJN nN.1 nN.2.1
                have tkN : TupK J8 (upd J8 N (.lst (vs ++ [v]))) := tk_lst hN8
                refine ⟨vs, hN8, small1000 (by omega), vs ++ [v], upd_same, by rw [List.length_append, lv]; rfl, fun x hx => ?_, B8.deal.upd ⟨nN.1, nN.2.1⟩, Kp.mut (Kp.refl _ _ _) (kJ.trans k8) hN⟩
                rcases List.mem_append.mp hx with hx | hx
                · obtain ⟨b', r', q'⟩ := hv x hx
                  exact ⟨b', (r'.mono (TupK.kp BJ.deal k8)).mono tkN, q'⟩
                · rw [List.mem_singleton.mp hx]
                  exact ⟨b, rv.mono tkN, tb, hdb, hzb⟩
              · obtain ⟨vs, hJN, lv, hv, DJ, kJ⟩ := q
                have BJ := st7.bs.kp DJ kJ
                match vs, lv with
                | [v1, v2], _ =>
                  obtain ⟨b1, r1, t1, d1, z1⟩ := hv v1 (by simp)
                  obtain ⟨b2, r2, t2, d2, z2⟩ := hv v2 (by simp)
                  refine gN ?_
                  refine use_closed (b := .ite a b1 b2) BJ (by exact rfl) (by omega) (by exact mk_tup (mk_cons mk_str (mk_cons (mk_v rfl a.rep) (mk_cons (mk_ix rfl hJN rfl r1) (mk_cons (mk_ix rfl hJN rfl r2) mk_nil)))) le1000) fun u J9 s9 ru => ?_
                  have e1 : (Body.ite a b1 b2).dep = max b1.dep b2.dep + 1 := rfl
                  have e2 : (Body.ite a b1 b2).size = b1.size + b2.size + 1 := rfl
                  exact fin g4 _ _ h4 J7 (.ite a b1 b2) st9 ⟨at7, t1, t2⟩ (by omega) (by omega) J9 u (BJ.fr.trans s9) (BJ.deal.same s9) ru
            · unfold tNext
              dsimp only
              refine decS_if (decS_and (by exact decS_eqI rfl) fun J7 s7 _ => by exact decS_gt (n := 0) rfl (s7 _ _ (s6 _ _ hJ5))) (fun J7 s7 p7 => ?_) fun J7 s7 p7 => ?_
              · -- a case
                have B7 := (B5.same s6).same s7
                have st7 : Stp ⟨cutH H d l, d, l, ww, E, L, W⟩ (cP dp) (6 * cP dp) g [] J2 g3 h3 J7 := st5.trans (Stp.refl B7 (KpB.same (s6.trans s7)))
                have hd1 := hway (.inr p7.1)
                have hcD : cP dp + cD (dp + 1) + 1 ≤ cD dp ∧ 13 + cP dp + 1 + 2 * cS (dp + 1) ≤ cS dp ∧ cG dp + 6 * cP dp + 2 ≤ cG (dp + 1) ∧ cG (dp + 1) ≤ 69 := by
                  have : dp = 0 ∨ dp = 1 := by omega
                  rcases this with rfl | rfl <;> decide
                have hJ7 := s7 _ _ (s6 _ _ hJ5)
                have nM := nM
                have lsel : sel.length ≤ g3.length := by
                  rw [← paired_len ps5, ← pl_len g3]
                  exact List.length_filter_le _ _
                have lp := p7.2
                dsimp only
                refine ⟨_, rfl, _, rfl, _, rfl, M, _, rfl, .inl (SqL.of hJ7), d, l, _, rfl, B7.deal, by omega, by omega, fun r' J8 r0' r1' D8 k8 => ?_⟩
                have B8 := B7.kp D8 k8
                have hJ8 := k8 _ _ hJ7 nM.1 nM.2.1
                obtain ⟨v, hv, hin⟩ := atI_in r0' r1'
                obtain ⟨pp, hpp, hat⟩ := paired_mem ps5 hin
                obtain ⟨hpp, hrow⟩ := List.mem_filter.mp hpp
                have hrow := of_decide_eq_true hrow
                have hpl := pl_mem hpp
                have tk8 := (TupK.same (s6.trans s7)).trans (TupK.kp B7.deal k8)
                obtain ⟨a, kv, rfl, ha, rkv⟩ := pd_at (hat.mono tk8)
                have rdue8 := rdue5.mono tk8
                obtain ⟨i, κ⟩ := pp
                have gκ := B8.good κ (List.mem_of_getElem? hpl)
                refine ⟨M, _, _, _, rfl, rfl, SqL.of hJ8, hv, a, _, rfl, SqT.of ha, rfl, _, _, rfl, _, _, rfl, rfl, ?_⟩
                dsimp only
                refine sA (use_body B8 hF (by exact rfl) (by exact rfl) (by exact rfl) (by exact rfl) (by exact rfl) (by exact rfl) pdue rdue8 hd1 (by omega) (by omega) fun v1 b1 J9 B9 k9 rv1 tb1 hdb1 hzb1 => ?_)
                have tk9 := TupK.kp B8.deal k9
                have rkv9 : Rep J9 κ.d kv := rkv.mono tk9
                have rdue9 := rdue8.mono tk9
                refine gN ?_
                refine sA (oP (lst_use (by exact mk_cons (mk_holds (x := "hold") (i := 8) (by exact rfl) rkv9) (mk_cons (mk_tup (mk_cons mk_str mk_nil) le1000) mk_nil)) (Same.refl J9) le1000 fun X2 us2 J10 nX2 hX2 rX2 sX2 => ?_))
                have rkv10 := rkv9.mono (TupK.same sX2)
                obtain ⟨v0, _, rfl, rv0, w1, _, rfl, rw1, e2⟩ := rX2
                cases (show _ = _ from e2)
                refine ⟨_, rfl, by show 1 ≤ sizeLine; decide, fun t ht => eqK (κ' := .nums) (rkv10.mono (TupK.same (Same.new ht))) (Rep.new (ds := [.s "nums"]) ht (Reps.cons rfl rfl)) (good_ok ok gκ) trivial (.inr ⟨_, rfl, ?_⟩)⟩
                have sT := Same.new (o := .tup [V.str ("nums" : Str)]) ht
                generalize upd J10 t (.tup [V.str ("nums" : Str)]) = J11 at sT ⊢
                have s11 := sX2.trans sT
                have B11 := B9.same s11
                have rκ11 := rkv9.mono (TupK.same s11)
                obtain ⟨rv, hrv, rrv⟩ : ∃ rv, atI [v0, w1] (if decide (κ = Kd.nums) = true then (1 : Int) else 0) = some rv ∧ Rep J11 κ.thing.d rv := by
                  cases κ with
                  | num => exact hrow.elim
                  | hold _ _ => exact hrow.elim
                  | nums => exact ⟨w1, rfl, rw1.mono (TupK.same sT)⟩
                  | holds k q =>
                    refine ⟨v0, ?_, rv0.mono (TupK.same sT)⟩
                    rw [if_neg (by simp)]; rfl
                have gth : W.good κ.thing := by
                  cases κ with
                  | num => exact hrow.elim
                  | hold _ _ => exact hrow.elim
                  | nums => trivial
                  | holds k q => exact gκ
                refine ⟨X2, _, _, rv, rfl, rfl, SqL.of (sT _ _ hX2), hrv, ?_⟩
                refine gN ?_
                refine ⟨_, rfl, _, rfl, _, rfl, ⟨cutH H d l, d, l, ww, E, L, W⟩, g3, h3, κ.thing, rv, rfl, B11, rrv, gth, by omega, fun J12 B12 k12 => ?_⟩
                have tk12 := B11.tk k12
                have l12 : (g3 ++ [κ.thing]).length = g3.length + 1 := by rw [List.length_append]; rfl
                refine ⟨_, rfl, _, rfl, _, rfl, ⟨cutH H d l, d, l, ww, E, L, W⟩, g3 ++ [κ.thing], h3, κ, kv, rfl, B12, rκ11.mono tk12, gκ, by omega, fun J13 B13 k13 => ⟨_, _, rfl, ?_⟩⟩
                have tk13 := tk12.trans (B12.tk k13)
                have l13 : (g3 ++ [κ.thing] ++ [κ]).length = g3.length + 2 := by rw [List.length_append, l12]; rfl
                have tk913 := (TupK.same s11).trans tk13
                dsimp only
                refine sA (use_body B13 hF (by exact rfl) (by exact rfl) (by exact rfl) (by exact rfl) (by exact rfl) (by exact rfl) pdue (rdue9.mono tk913) hd1 (by omega) (by omega) fun v2 b2 J14 B14 k14 rv2 tb2 hdb2 hzb2 => ?_)
                have rv1' := (rv1.mono tk913).mono (TupK.kp B13.deal k14)
                refine gN ?_
                have sz7 := stp_sz (W := W) rfl st7
                refine use_closed (b := .case (.nm (W.nm i)) b1 (W.nm g3.length) (W.nm (g3 ++ [κ.thing]).length) b2) B14 (by exact rfl) (by omega) (by exact mk_tup (mk_cons mk_str (mk_cons (mk_vs rfl) (mk_cons (mk_v rfl rv1') (mk_cons (mk_vs rfl) (mk_cons (mk_vs rfl) (mk_cons (mk_v rfl rv2) mk_nil)))))) le1000) fun u J15 s15 ru => ?_
                have hlk := lack_app W g3 [κ.thing, κ]
                have tb2' : BTy W (g3 ++ [κ.thing, κ]) due b2 := by
                  rw [List.append_assoc] at tb2; exact tb2
                have hdb2' : b2.dep ≤ W.lack (g3 ++ [κ.thing, κ]) + cD (dp + 1) := by
                  rw [List.append_assoc] at hdb2; exact hdb2
                have e1 : (Body.case (.nm (W.nm i)) b1 (W.nm g3.length) (W.nm (g3 ++ [κ.thing]).length) b2).dep = max b1.dep b2.dep + 1 := rfl
                have e2 : (Body.case (.nm (W.nm i)) b1 (W.nm g3.length) (W.nm (g3 ++ [κ.thing]).length) b2).size = b1.size + b2.size + 1 := rfl
                exact fin g3 _ _ h3 J7 (.case (.nm (W.nm i)) b1 (W.nm g3.length) (W.nm (g3 ++ [κ.thing]).length) b2) st7 ⟨κ, hrow, gκ, .inl ⟨i, hpl, rfl⟩, tb1, rfl, by rw [l12], tb2'⟩ (by omega) (by omega) J15 u (B14.fr.trans s15) (B14.deal.same s15) ru
              · -- give
                have B7 := (B5.same s6).same s7
                have st7 : Stp ⟨cutH H d l, d, l, ww, E, L, W⟩ (cP dp) (6 * cP dp) g [] J2 g3 h3 J7 := st5.trans (Stp.refl B7 (KpB.same (s6.trans s7)))
                dsimp only
                refine sA (use_have (κ := due) B7 (by exact rfl) (by exact rfl) (by exact rfl) (by exact rfl) (by exact mk_v rfl (rdue5.mono (TupK.same (s6.trans s7)))) (plain_good pdue) (plain_no pdue) (by omega) (by omega) fun a g4 h4 J8 st8 at8 => ?_)
                have st9 := st7.trans st8
                have sz9 := stp_sz (W := W) rfl st9
                refine gN ?_
                refine use_closed (b := .give a) st8.bs (by exact rfl) (by omega) (by exact mk_tup (mk_cons mk_str (mk_cons (mk_v rfl a.rep) mk_nil)) le1000) fun u J9 s9 ru => ?_
                have hcD : cP dp + 1 ≤ cD dp ∧ 13 + cP dp + 1 ≤ cS dp := by
                  have : dp = 0 ∨ dp = 1 ∨ dp = 2 := by omega
                  rcases this with rfl | rfl | rfl <;> decide
                have e1 : (Body.give a).dep = 1 := rfl
                have e2 : (Body.give a).size = 1 := rfl
                exact fin g4 _ _ h4 J8 (.give a) st9 at8 (by omega) (by omega) J9 u (st8.bs.fr.trans s9) (st8.bs.deal.same s9) ru
end
end Ak
namespace Ak
open PySem L2
local macro_rules | `(tactic| walk_at "no attr") => `(tactic| exact rwF_no _ _ _ (by decide +kernel) (by decide +kernel) (by decide +kernel))
set_option maxHeartbeats 4000000
set_option pp.maxSteps 2000
/-! ### a hear -/
abbrev st_l_hear : Stmt := top 22
theorem sc_l_hear : FnScope ["_law_deal_here", "_law_world", "_law_keeper", "_law_ask", "_law_x", "_law_h", "_law_n", "_law_y", "_law_z", "_law_kind", "_law_env", "_law_heads_here", "_law_way", "_law_k", "_law_body_here"] ["_law_deal_here", "_law_world", "_law_keeper", "_law_ask"] (defScope st_l_hear) := ⟨rfl, rfl, rfl, by decide +kernel, rfl, by decide +kernel, by decide +kernel⟩
theorem rT {te : TE} {D : Ends} {σ : L2.St} {H : Hp} (h : te σ H fun v H1 => D.rt v H1) : tRet te D σ H := h
theorem env_last {W : WW} {g : List Kd} {κ : Kd} {H : Hp} {us : List V} (r : Reps H (W.envD (g ++ [κ])) us) : ∃ us' v, us = us' ++ [v] ∧ Rep H (W.pd (g.length, κ)) v := by
  rw [envD_snoc] at r
  obtain ⟨us', v, e, _, rv⟩ := reps_snoc r
  exact ⟨us', v, e, rv⟩
theorem mk_ixT {K : PySem.W.Frag} {σ : L2.St} {H0 : Hp} {i : Nat} {p : Addr} {xs : List V} {n : Int} {v : V} {d : D} (e : σ[i]? = some (some (.ref p))) (h : H0 p = some (.tup xs)) (a : atI xs n = some v) (r : Rep H0 d v) : MkD (tOp (rIxT K) (tVar i) (tC (.int n))) σ H0 d := fun H s Q k => ⟨_, e, p, xs, n, v, rfl, rfl, SqT.of (s _ _ h), a, k v H (Same.refl H) (r.mono (TupK.same s))⟩
theorem mk_closed {C : BC} {g' : List Kd} {hs : List Hd} {J : Hp} (B : BS C g' hs J) {b : Body} {te : TE} {σ : L2.St} {i : Nat} (e : σ[i]? = some (some (.ref C.L))) (hl : hs.length ≤ 1000) (mk : MkD te σ J b.d) : MkD (tCall spClosed [] L2.E0 (tCons (tVar i) (tCons te tNil))) σ J (closeB hs b).d := fun H s Q k => use_closed (B.same s) e hl (fun H' s' => mk H' (s.trans s')) k
theorem cut_5 {W : WW} (ok : W.Ok) : cutV (W.words.map V.str) (some 14) (some 19) = [.str (W.nm 0), .str (W.nm 1), .str (W.nm 2), .str (W.nm 3), .str (W.nm 4)] := by
  have e1 : cutV (W.words.map V.str) (some 14) (some 19) = ((W.words.map V.str).drop 14).take 5 := by
    unfold cutV
    rw [show (14 : Int) = ((14 : Nat) : Int) from rfl, show (19 : Int) = ((19 : Nat) : Int) from rfl, HT.sIx_nat, HT.sIx_nat, List.length_map, ok.wl]
    rfl
  rw [e1]
  refine List.ext_getElem? fun i => ?_
  by_cases h : i < 5
  · rw [List.getElem?_take_of_lt h, List.getElem?_drop, List.getElem?_map, nm_at ok (by omega)]
    match i, h with
    | 0, _ => rfl
    | 1, _ => rfl
    | 2, _ => rfl
    | 3, _ => rfl
    | 4, _ => rfl
  · rw [List.getElem?_eq_none (by rw [List.length_take]; omega), List.getElem?_eq_none (by show 5 ≤ i; omega)]
def hgOf (W : WW) (q : Str) (b : Body) : HG := ⟨q, W.nm 0, W.nm 1, W.nm 2, b.pt⟩
theorem hg_d (W : WW) (q : Str) (b : Body) : (hgOf W q b).d = .t [.s q, .s (W.nm 0), .s (W.nm 1), .s (W.nm 2), b.d] := by
  show D.t [.s q, .s (W.nm 0), .s (W.nm 1), .s (W.nm 2), b.pt.d] = _
  rw [Body.pt_d]
def spHear : Sp := fun vs H Q _ => ∃ (d l w : Addr) (W : WW) (kw : KW) (aw : AW) (kv av : V), vs = [.ref d, .ref w, kv, av] ∧ BB d l w W H ∧ kw ∈ W.ks ∧ aw ∈ W.as ∧ aw.nm ∈ kw.heard ∧ KwAt (cutH H d l) kw kv ∧ Rep (cutH H d l) aw.d av ∧
  ∀ (v : V) (b : Body) (H' : Hp), DealAt H' d l → Kp d l H H' → Rep H' (hgOf W aw.nm b).d v → BTy W [aw.of, .hold kw.nm aw.nm, kw.note] kw.gives b → b.dep ≤ 30 → b.size ≤ 150 → Q v H'
section
variable {P : Program} {w : World} {K : PySem.W.Frag} {mg : Str → Option Value} {base : Heap} {f1 f3 f5 f6 f7 : Addr} {d1 d3 d5 d6 d7 : FuncData}
theorem ok_l_hear {f : Addr} {fd : FuncData} (D : Fn K mg "_law_hear" st_l_hear ["_law_deal_here", "_law_world", "_law_keeper", "_law_ask"] f fd) (T : BltB mg) (D_l_draw : Fn K mg "_law_draw" st_l_draw ["_law_deal_here", "_law_many"] f3 d3) (G_l_draw : FnOk P w K mg base CX0 1 f3 d3 ["_law_deal_here", "_law_many"] spDraw) (D_l_piece : Fn K mg "_law_piece" st_l_piece ["_law_deal_here", "_law_world", "_law_env", "_law_heads_here", "_law_later"] f1 d1) (G_l_piece : FnOk P w K mg base CX0 5 f1 d1 ["_law_deal_here", "_law_world", "_law_env", "_law_heads_here", "_law_later"] spPiece)
    (D_l_go : Fn K mg "_law_go" st_l_go ["_law_deal_here", "_law_world", "_law_env", "_law_heads_here", "_law_h", "_law_kind"] f5 d5) (G_l_go : FnOk P w K mg base CX0 4 f5 d5 ["_law_deal_here", "_law_world", "_law_env", "_law_heads_here", "_law_h", "_law_kind"] spGo) (D_l_closed : Fn K mg "_law_closed" st_l_closed ["_law_heads_here", "_law_body_here"] f6 d6) (G_l_closed : FnOk P w K mg base CX0 1 f6 d6 ["_law_heads_here", "_law_body_here"] spClosed)
    (D_l_body : Fn K mg "_law_body" st_l_body ["_law_deal_here", "_law_world", "_law_env", "_law_due", "_law_later", "_law_deep"] f7 d7) (G_l_body : FnOk P w K mg base CX0 (5 + 3) f7 d7 ["_law_deal_here", "_law_world", "_law_env", "_law_due", "_law_later", "_law_deep"] (spBody 3)) : FnOk P w K mg base CX0 9 f fd ["_law_deal_here", "_law_world", "_law_keeper", "_law_ask"] spHear := by
  refine D.F.ok sc_l_hear (fun vs H Q E h => ?_) (fun cdv A outer s H vs Q E hr h => ?_)
  · obtain ⟨d, l, w, W, kw, aw, kv, av, rfl, _⟩ := h
    rfl
  · obtain ⟨d, l, ww, W, kw, aw, kv, av, rfl, BB0, hkw, haw, hq, hkv, hav, k⟩ := h
    have hu := hu_of hr
    have ok := BB0.ok
    have sc := cut_same H d l
    obtain ⟨pw, pa, pk, pf, ua, uk, uf, h1, h2, h3, h4, h5, ra, rks, rfs⟩ := BB0.wd
    have luf : uf.length ≤ 4 := by rw [← paired_len rfs]; exact ok.fl.2
    obtain ⟨p, hh, va, vt, vg, rfl, hp, rva, rvt, rvg, _⟩ := hkv
    obtain ⟨pq, vo, vb, rfl, hpq, rvo, rvb⟩ := AW.at hav
    refine ⟨_, (pss_cons (ps_asg (pe_slice sl_list (pe_dget hu (pv 1) pe_str (fun _ _ => rfl)) (po_some pe_int) (po_some pe_int)) (pg_lst (by rfl) (pgs_cons (pg_name (i := 4) sc_l_hear.nd rfl (Or.inl rfl)) (pgs_cons (pg_name (i := 5) sc_l_hear.nd rfl (Or.inl rfl)) (pgs_cons (pg_name (i := 6) sc_l_hear.nd rfl (Or.inl rfl)) (pgs_cons (pg_name (i := 7) sc_l_hear.nd rfl (Or.inl rfl)) (pgs_cons (pg_name (i := 8) sc_l_hear.nd rfl (Or.inl rfl)) pgs_nil)))))))
      (pss_cons (ps_set (i := 9) sc_l_hear.nd rfl (Or.inl rfl) (pe_tup (pa_cons pe_str (pa_cons (pe_ix ix_tup (pv 2) pe_int (fun _ _ => rfl)) (pa_cons (pe_ix ix_tup (pv 3) pe_int (fun _ _ => rfl)) pa_nil)))))
      (pss_cons (ps_set (i := 10) sc_l_hear.nd rfl (Or.inl rfl) (pe_lst (pa_cons (pe_tup (pa_cons (pv 4) (pa_cons (pe_ix ix_tup (pv 3) pe_int (fun _ _ => rfl)) pa_nil))) (pa_cons (pe_tup (pa_cons (pv 5) (pa_cons (pv 9) pa_nil))) (pa_cons (pe_tup (pa_cons (pv 6) (pa_cons (pe_ix ix_tup (pv 2) pe_int (fun _ _ => rfl)) pa_nil))) pa_nil)))))
      (pss_cons (ps_set (i := 11) sc_l_hear.nd rfl (Or.inl rfl) (pe_lst pa_nil))
      (pss_cons (ps_set (i := 12) sc_l_hear.nd rfl (Or.inl rfl) (pe_call G_l_draw (hr.mono (by decide)) rfl D_l_draw.mg D_l_draw.kp D_l_draw.b .nil pass0 (pa_cons (pv 0) (pa_cons pe_int pa_nil))))
      (pss_cons (ps_if (pt_cmpR op_eq (pv 12) pe_int (nomark _)) (pss_one (ps_ret (pe_tup (pa_cons (pe_ix ix_tup (pv 3) pe_int (fun _ _ => rfl)) (pa_cons (pv 4) (pa_cons (pv 5) (pa_cons (pv 6) (pa_cons (pe_tup (pa_cons pe_str (pa_cons (pv 7) (pa_cons (pe_ix ix_tup (pv 3) pe_int (fun _ _ => rfl)) (pa_cons (pv 4) (pa_cons (pe_tup (pa_cons pe_str (pa_cons (pv 8) (pa_cons (pv 5) (pa_cons (pv 7) (pa_cons (pv 6) (pa_cons (pe_tup (pa_cons pe_str (pa_cons (pv 8) pa_nil))) pa_nil))))))) pa_nil)))))) pa_nil)))))))) pss_nil)
      (pss_cons (ps_for PassesOwn.never rfl (pi_range1 rfl T.range (pa_cons (pe_op op_mul (pe_call G_l_draw (hr.mono (by decide)) rfl D_l_draw.mg D_l_draw.kp D_l_draw.b .nil pass0 (pa_cons (pv 0) (pa_cons pe_int pa_nil))) (pe_callTy call_int1 (by rfl) T.int (by decide +kernel) (pa_cons (pe_cmpR op_lt (pv 12) pe_int (nomark _)) pa_nil))) pa_nil)) (pg_name (i := 13) sc_l_hear.nd rfl (Or.inl rfl)) (pss_one (ps_expr (pe_call G_l_piece (hr.mono (by decide)) rfl D_l_piece.mg D_l_piece.kp D_l_piece.b .nil pass0 (pa_cons (pv 0) (pa_cons (pv 1) (pa_cons (pv 10) (pa_cons (pv 11) (pa_cons (pe_callB call_len_seq (by rfl) T.len (by decide +kernel) (pa_cons (pe_dget hu (pv 1) pe_str (fun _ _ => rfl)) pa_nil)) pa_nil)))))))))
      (pss_cons (ps_for PassesOwn.never rfl (pi_range1 rfl T.range (pa_cons (pe_ix ix_list (pe_lst (pa_cons pe_int (pa_cons pe_int (pa_cons pe_int (pa_cons pe_int (pa_cons pe_int (pa_cons pe_int (pa_cons pe_int pa_nil)))))))) (pe_op op_sub (pv 12) pe_int) (fun _ _ => rfl)) pa_nil)) (pg_name (i := 13) sc_l_hear.nd rfl (Or.inl rfl)) (pss_one (ps_expr (pe_call G_l_go (hr.mono (by decide)) rfl D_l_go.mg D_l_go.kp D_l_go.b .nil pass0 (pa_cons (pv 0) (pa_cons (pv 1) (pa_cons (pv 10) (pa_cons (pv 11) (pa_cons (pv 5) (pa_cons (pv 9) pa_nil))))))))))
      (pss_cons (ps_set (i := 14) sc_l_hear.nd rfl (Or.inl rfl) (pe_tup (pa_cons pe_str (pa_cons (pe_ix ix_tup (pe_ix ix_list (pv 10) (pe_un un_neg pe_int) (fun _ _ => rfl)) pe_int (fun _ _ => rfl)) pa_nil))))
      (C8.pss_cut (ps_if (pt_cmpR op_gt (pv 12) pe_int (nomark _)) (pss_one (ps_set (i := 14) sc_l_hear.nd rfl (Or.inl rfl) (pe_call G_l_body (hr.mono (by decide)) rfl D_l_body.mg D_l_body.kp D_l_body.b .nil pass0 (pa_cons (pv 0) (pa_cons (pv 1) (pa_cons (pv 10) (pa_cons (pe_ix ix_tup (pv 2) pe_int (fun _ _ => rfl)) (pa_cons pe_int (pa_cons pe_int pa_nil))))))))) pss_nil)
      (pss_one (ps_ret (pe_tup (pa_cons (pe_ix ix_tup (pv 3) pe_int (fun _ _ => rfl)) (pa_cons (pv 4) (pa_cons (pv 5) (pa_cons (pv 6) (pa_cons (pe_call G_l_closed (hr.mono (by decide)) rfl D_l_closed.mg D_l_closed.kp D_l_closed.b .nil pass0 (pa_cons (pv 11) (pa_cons (pv 14) pa_nil))) pa_nil)))))))))))))))))), ?_⟩
    refine ⟨_, rfl, ww, .ref pw, rfl, w_words (sc _ _ h1), 14, rfl, 19, rfl, pw, _, rfl, SqL.of (sc _ _ h2), fun X hX => ?_⟩
    rw [cut_5 ok]
    have sX := Same.new (o := .lst [V.str (W.nm 0), .str (W.nm 1), .str (W.nm 2), .str (W.nm 3), .str (W.nm 4)]) hX
    refine ⟨X, _, rfl, SqL.of upd_same, rfl, _, _, rfl, _, _, rfl, _, _, rfl, _, _, rfl, _, _, rfl, rfl, ?_⟩
    dsimp only
    generalize upd H X _ = J1 at sX ⊢
    have s1 := sc.trans sX
    refine sA (mk_use (d := (Kd.hold kw.nm aw.nm).d) (by exact mk_tup (mk_cons mk_str (mk_cons (mk_ixT rfl (s1 _ _ hp) (at0 _ _) rfl) (mk_cons (mk_ixT rfl (s1 _ _ hpq) (at0 _ _) rfl) mk_nil))) le1000) (Same.refl J1) fun kd J2 s2 rkd => ?_)
    refine gN ?_
    have s12 := s1.trans s2
    refine sA (lst_use (ds := W.envD [aw.of, .hold kw.nm aw.nm, kw.note]) (by exact mk_cons (mk_tup (mk_cons (mk_vs rfl) (mk_cons (mk_ixT rfl (s12 _ _ hpq) (at_nat _ 1 rfl) (rvo.mono (TupK.same s12))) mk_nil)) le1000) (mk_cons (mk_tup (mk_cons (mk_vs rfl) (mk_cons (mk_v rfl rkd) mk_nil)) le1000) (mk_cons (mk_tup (mk_cons (mk_vs rfl) (mk_cons (mk_ixT rfl (s12 _ _ hp) (at_nat _ 1 rfl) (rva.mono (TupK.same s12))) mk_nil)) le1000) mk_nil))) (Same.refl J2) le1000 fun E us J3 nE hE rE s3 => ?_)
    refine gN ?_
    refine ⟨Nat.zero_le _, fun L hL => ?_⟩
    refine gN ?_
    have gd : ∀ κ ∈ [aw.of, Kd.hold kw.nm aw.nm, kw.note], W.good κ := fun κ hκ => by
      simp only [List.mem_cons, List.not_mem_nil, or_false] at hκ
      rcases hκ with rfl | rfl | rfl
      · exact plain_good (ok.ap aw haw).1
      · exact ⟨kw, hkw, rfl, hq⟩
      · exact ok.note hkw
    have sL := Same.new (o := .lst []) hL
    have sXH := sX.trans s2
    have s13 := sXH.trans s3
    have hEn : H E = none := sXH.free nE
    have hLn : H L = none := s13.free hL
    have aL := upd_same (H := J3) (a := L) (o := .lst [])
    have nEL : E ≠ L := ne_of_none hE hL
    have rkd3 := rkd.mono (TupK.same s3)
    have rkd4 := rkd3.mono (TupK.same sL)
    have B0 : BS ⟨cutH H d l, d, l, ww, E, L, W⟩ [aw.of, Kd.hold kw.nm aw.nm, kw.note] [] (upd J3 L (.lst [])) := by
      have nE' := BB0.deal.new hEn
      have nL' := BB0.deal.new hLn
      have sA := s13.trans sL
      exact ⟨ok, BB0.wd, sc.trans sA, ⟨(cut_no H d l).1, (cut_no H d l).2, cut_none hEn, cut_none hLn⟩, BB0.deal.same sA, ⟨nE'.2, nL'.2, nEL⟩, ⟨us, sL _ _ hE, rE.mono (TupK.same sL)⟩, ⟨[], aL, rfl⟩, gd⟩
    generalize upd J3 L (.lst []) = J4 at B0 rkd4 ⊢
    clear aL sL hL sXH s13 rkd3 rkd rE hE nE s3 s12 s2 s1 sX hX
    refine ⟨_, rfl, d, l, 8, rfl, B0.deal, by decide, by decide, fun way J5 w0 w1 D5 k5 => ?_⟩
    have B5 := B0.kp D5 k5
    have rkd5 := rkd4.mono (TupK.kp B0.deal k5)
    clear B0 rkd4 D5 k5
    refine gN ?_
    dsimp only
    refine decS_if (by exact decS_eqI rfl) (fun J6 s6 p6 => ?_) fun J6 s6 p6 => ?_
    · -- asked on
      have B6 := B5.same s6
      refine rT (mk_use (d := (hgOf W aw.nm (.bind (W.nm 3) (.ask aw.nm (.nm (W.nm 0))) (.bind (W.nm 4) (.go (.nm (W.nm 1)) (.nm (W.nm 3)) (.nm (W.nm 2))) (.give (.nm (W.nm 4)))))).d) (by exact mk_tup (mk_cons (mk_ixT rfl (B6.fr _ _ hpq) (at0 _ _) rfl) (mk_cons (mk_vs rfl) (mk_cons (mk_vs rfl) (mk_cons (mk_vs rfl) (mk_cons (mk_tup (mk_cons mk_str (mk_cons (mk_vs rfl) (mk_cons (mk_ixT rfl (B6.fr _ _ hpq) (at0 _ _) rfl) (mk_cons (mk_vs rfl) (mk_cons (mk_tup (mk_cons mk_str (mk_cons (mk_vs rfl) (mk_cons (mk_vs rfl) (mk_cons (mk_vs rfl) (mk_cons (mk_vs rfl) (mk_cons (mk_tup (mk_cons mk_str (mk_cons (mk_vs rfl) mk_nil)) le1000) mk_nil)))))) le1000) mk_nil))))) le1000) mk_nil))))) le1000) (Same.refl J6) fun v J7 s7 rv => ?_)
      exact k v _ J7 (B6.deal.same s7) (cut_kp (B6.fr.trans s7)) rv ⟨aw.gives, plain_good (ok.ap aw haw).2, ⟨aw, haw, rfl, rfl, .inl ⟨0, rfl, rfl⟩⟩, rfl, kw.gives, plain_good (ok.kp kw hkw).2.2, ⟨kw, hkw, aw, haw, rfl, hq, .inl ⟨1, rfl, rfl⟩, .inl ⟨3, rfl, rfl⟩, .inl ⟨2, rfl, rfl⟩⟩, rfl, .inl ⟨4, rfl, rfl⟩⟩ (by show 3 ≤ 30; decide) (by show 3 ≤ 150; decide)
    · unfold tNext
      dsimp only
      have B6 := B5.same s6
      have rkd6 := rkd5.mono (TupK.same s6)
      clear B5 rkd5 s6
      refine sFor1 ?_
      refine ⟨_, rfl, d, l, 3, rfl, B6.deal, by decide, by decide, fun r J7 r0 r1 D7 k7 => ⟨_, rfl, _, _, rfl, rfl, .inr ⟨_, rfl, _, _, rfl, rfl, .inl ⟨by omega, by omega⟩, ?_⟩⟩⟩
      have B7 := B6.kp D7 k7
      have rkd7 := rkd6.mono (TupK.kp B6.deal k7)
      obtain ⟨np, hnp, hnp2, hnp3, hnp4⟩ : ∃ np : Nat, (r * (if decide (way < 4) = true then (1 : Int) else 0)) = (np : Int) ∧ np ≤ 2 ∧ (0 < np → way < 4) ∧ (r * (if decide (way < 4) = true then (1 : Int) else 0)).toNat = np := by
        by_cases c : way < 4
        · rw [decide_eq_true c, if_pos rfl, Int.mul_one]
          exact ⟨r.toNat, by omega, by omega, fun _ => c, rfl⟩
        · rw [decide_eq_false c, if_neg (by decide), Int.mul_zero]
          exact ⟨0, rfl, by omega, fun z => by omega, rfl⟩
      refine ⟨_, rfl, by omega, by omega, for_range (lo := 0) (n := (r * (if decide (way < 4) = true then (1 : Int) else 0)).toNat) (fun i σ J => ∃ (g1 : List Kd) (h1 : List Hd) (o13 : Option V), Stp ⟨cutH H d l, d, l, ww, E, L, W⟩ i (6 * i) [aw.of, .hold kw.nm aw.nm, kw.note] [] J7 g1 h1 J ∧ σ = [some (.ref d), some (.ref ww), some (.ref p), some (.ref pq), some (.str (W.nm 0)), some (.str (W.nm 1)), some (.str (W.nm 2)), some (.str (W.nm 3)), some (.str (W.nm 4)), some kd, some (.ref E), some (.ref L), some (.int way), o13, none]) ⟨_, [], _, Stp.refl B7 (KpB.refl _ _), rfl⟩ (fun i σ J hi q => ?_) fun σ J q => ?_⟩
      · obtain ⟨g1, h1, o13, st, rfl⟩ := q
        have ln := st.len
        have l3 : [aw.of, Kd.hold kw.nm aw.nm, kw.note].length = 3 := rfl
        rw [List.length_nil] at ln
        rw [hnp4] at hi
        exact ⟨_, rfl, _, rfl, _, rfl, _, rfl, _, rfl, ww, .ref pf, rfl, w_functions (st.bs.fr _ _ ‹_›), pf, uf, rfl, .inl (SqL.of (st.bs.fr _ _ h5)), _, g1, h1, uf.length, rfl, st.bs, by omega, by omega, fun g' hs' H' s2 => ⟨g', hs', _, (st.trans s2).le (by omega) (by omega), rfl⟩⟩
      · obtain ⟨g1, h1, o13, st, rfl⟩ := q
        rw [hnp4] at st
        have ln := st.len
        have l3 : [aw.of, Kd.hold kw.nm aw.nm, kw.note].length = 3 := rfl
        rw [List.length_nil] at ln
        have w1 : 1 ≤ way := by
          have : ¬ way = 0 := p6
          omega
        obtain ⟨m, hm, hm1, hm2, hm3⟩ : ∃ m : Nat, atI [V.int 1, V.int 1, V.int 1, V.int 1, V.int 2, V.int 0, V.int 0] (way - 1) = some (.int (m : Int)) ∧ m ≤ 2 ∧ (way ≤ 3 → m = 1) ∧ (way ≤ 3 ∨ 0 < way - 3) := by
          have : way = 1 ∨ way = 2 ∨ way = 3 ∨ way = 4 ∨ way = 5 ∨ way = 6 ∨ way = 7 := by omega
          rcases this with rfl | rfl | rfl | rfl | rfl | rfl | rfl
          · exact ⟨1, rfl, by omega, fun _ => rfl, by omega⟩
          · exact ⟨1, rfl, by omega, fun _ => rfl, by omega⟩
          · exact ⟨1, rfl, by omega, fun _ => rfl, by omega⟩
          · exact ⟨1, rfl, by omega, fun _ => rfl, by omega⟩
          · exact ⟨2, rfl, by omega, fun z => by omega, by omega⟩
          · exact ⟨0, rfl, by omega, fun z => by omega, by omega⟩
          · exact ⟨0, rfl, by omega, fun z => by omega, by omega⟩
        dsimp only
        refine sFor1 ?_
        refine ⟨by show 7 ≤ sizeLine; decide, fun X hX => ⟨_, rfl, _, _, rfl, rfl, X, _, _, _, rfl, rfl, SqL.of upd_same, hm, (m : Int), rfl, by omega, by omega, for_range (lo := 0) (n := (m : Int).toNat) (fun i σ J => ∃ (g1 : List Kd) (h1 : List Hd) (o13 : Option V), Stp ⟨cutH H d l, d, l, ww, E, L, W⟩ (np + i) (6 * np + 3 * i) [aw.of, .hold kw.nm aw.nm, kw.note] [] J7 g1 h1 J ∧ (0 < i → ∃ gx, g1 = gx ++ [kw.gives]) ∧ σ = [some (.ref d), some (.ref ww), some (.ref p), some (.ref pq), some (.str (W.nm 0)), some (.str (W.nm 1)), some (.str (W.nm 2)), some (.str (W.nm 3)), some (.str (W.nm 4)), some kd, some (.ref E), some (.ref L), some (.int way), o13, none]) ⟨g1, h1, _, (st.trans (Stp.refl (st.bs.same (Same.new hX)) (KpB.same (Same.new hX)))).le (by omega) (by omega), (fun z => by omega), rfl⟩ (fun i σ J hi q => ?_) fun σ J q => ?_⟩⟩
        · obtain ⟨g2, h2, o13, st2, _, rfl⟩ := q
          have ln2 := st2.len
          rw [List.length_nil] at ln2
          rw [Int.toNat_natCast] at hi
          refine ⟨_, rfl, _, rfl, _, rfl, _, rfl, _, rfl, _, rfl, ⟨cutH H d l, d, l, ww, E, L, W⟩, g2, h2, kw.nm, aw.nm, W.nm 1, kd, rfl, st2.bs, rkd7.mono (B7.tk st2.kp), ⟨kw, hkw, rfl, hq⟩, st2.at (.inl ⟨1, rfl, rfl⟩), by omega, by omega, fun kw' gx hs' H' hk' en st' => ⟨gx ++ [kw'.gives], hs', _, (st2.trans st').le (by omega) (by omega), fun _ => ⟨gx, ?_⟩, rfl⟩⟩
          rw [nodup_key ok.kn hk' hkw en]
        · obtain ⟨g2, h2, o13, st2, hlast, rfl⟩ := q
          rw [Int.toNat_natCast] at st2 hlast
          clear st ln hX
          have ln2 := st2.len
          rw [List.length_nil] at ln2
          have sz2 := stp_sz (W := W) rfl st2
          have B8 := st2.bs
          have kp8 := st2.kp
          obtain ⟨uE, eE, rE⟩ := B8.e
          obtain ⟨gx, κl, eg⟩ : ∃ gx κl, g2 = gx ++ [κl] := ⟨g2.dropLast, g2.getLast (by intro z; rw [z] at ln2; simp at ln2), (List.dropLast_concat_getLast _).symm⟩
          have rE2 := rE
          rw [eg] at rE2
          obtain ⟨us', vl, eu, rvl⟩ := env_last rE2
          obtain ⟨al, kl, rfl, hal, rkl⟩ := pd_at rvl
          dsimp only
          refine ⟨_, rfl, 1, rfl, E, _, _, .ref al, rfl, rfl, SqL.of eE, by rw [eu]; exact at_last _ _, al, _, 0, _, rfl, rfl, SqT.of hal, at0 _ _, by show 2 ≤ sizeLine; decide, fun t ht => ?_⟩
          have st9 := Same.new (o := .tup [V.str ("give" : Str), V.str (W.nm gx.length)]) ht
          have rg : Rep (upd _ t (.tup [V.str ("give" : Str), V.str (W.nm gx.length)])) (Body.give (.nm (W.nm gx.length))).d (.ref t) := Rep.new (ds := [.s "give", .s (W.nm gx.length)]) (vs := [V.str ("give" : Str), V.str (W.nm gx.length)]) ht (Reps.cons rfl (Reps.cons rfl rfl))
          have B9 := B8.same st9
          have kp9 := kp8.trans (KpB.same (C := ⟨cutH H d l, d, l, ww, E, L, W⟩) st9)
          generalize upd _ t (.tup [V.str ("give" : Str), V.str (W.nm gx.length)]) = J9 at st9 rg B9 kp9 ⊢
          refine gN ?_
          have l03 : W.lack [aw.of, Kd.hold kw.nm aw.nm, kw.note] ≤ 13 := lack_le ok _
          refine ⟨fun σ J => ∃ (b : Body) (bv : V), σ = [some (.ref d), some (.ref ww), some (.ref p), some (.ref pq), some (.str (W.nm 0)), some (.str (W.nm 1)), some (.str (W.nm 2)), some (.str (W.nm 3)), some (.str (W.nm 4)), some kd, some (.ref E), some (.ref L), some (.int way), o13, some bv] ∧ BS ⟨cutH H d l, d, l, ww, E, L, W⟩ g2 h2 J ∧ Rep J b.d bv ∧ BTy W g2 kw.gives b ∧ h2.length + b.dep ≤ 30 ∧ h2.length + b.size ≤ 150, ?_, fun σ J q => ?_⟩
          · refine decS_if (by exact decS_rel (f := fun i j => decide (j < i)) rfl) (fun J1 s1 p1 => ?_) fun J1 s1 p1 => ?_
            · have p1 := of_decide_eq_true p1
              have np0 : np = 0 := by
                cases np with
                | zero => rfl
                | succ n => have := hnp3 (Nat.succ_pos _); omega
              have B1 := B9.same s1
              have sf := st9.trans s1
              have hcD : cD 1 = 7 := rfl
              have hcS : cS 1 = 49 := rfl
              exact ⟨_, rfl, _, rfl, _, rfl, _, rfl, p, _, 3, vg, rfl, rfl, SqT.of (B1.fr _ _ hp), at_nat _ 3 rfl, d, l, ww, W, E, g2, uE, kw.gives, vg, 1, 1, rfl, B1.bb, sf _ _ eE, rE.mono (TupK.same sf), B1.good, (ok.kp kw hkw).2.2, rvg.mono (TupK.same B1.fr), by decide, by decide, by show g2.length ≤ 48; omega, fun v b J' D' k' rv tb hd hz => ⟨b, v, rfl, B1.kp D' k', rv, tb, by omega, by omega⟩⟩
            · have p1 : ¬ 3 < way := fun z => p1 (decide_eq_true z)
              have hm4 := hm2 (by omega)
              obtain ⟨gy, ey⟩ := hlast (by omega)
              have e2 := eg.symm.trans ey
              have e3 := List.append_inj' e2 rfl
              have e4 : κl = kw.gives := by
                have := e3.2
                injection this
              have at9 : AtTy W g2 kw.gives (.nm (W.nm gx.length)) := .inl ⟨gx.length, by rw [eg, e4]; simp, rfl⟩
              refine ⟨.give (.nm (W.nm gx.length)), .ref t, rfl, B9.same s1, rg.mono (TupK.same s1), at9, ?_, ?_⟩
              · show h2.length + 1 ≤ 30; omega
              · show h2.length + 1 ≤ 150; omega
          · obtain ⟨b, bv, rfl, BJ, rb, tb, hd, hz⟩ := q
            refine rT (mk_use (d := (hgOf W aw.nm (closeB h2 b)).d) (by
              rw [hg_d]
              exact mk_tup (mk_cons (mk_ixT rfl (BJ.fr _ _ hpq) (at0 _ _) rfl) (mk_cons (mk_vs rfl) (mk_cons (mk_vs rfl) (mk_cons (mk_vs rfl) (mk_cons (mk_closed BJ rfl (by omega) (mk_v rfl rb)) mk_nil))))) le1000) (Same.refl J) fun v J' s' rv => ?_)
            exact k v (closeB h2 b) J' (BJ.deal.same s') (cut_kp (BJ.fr.trans s')) rv (hty_close (W := W) rfl st2 tb) (by rw [close_dep]; exact hd) (by rw [close_size]; exact hz)
end
end Ak
namespace Ak
open PySem L2
local macro_rules | `(tactic| walk_at "no attr") => `(tactic| exact rwF_no _ _ _ (by decide +kernel) (by decide +kernel) (by decide +kernel))
set_option maxHeartbeats 4000000
set_option pp.maxSteps 2000
/-! ### the heads of a program -/
abbrev st_l_heads : Stmt := top 13
theorem sc_l_heads : FnScope ["_law_deal_here", "_law_words_here", "_law_plain", "_law_asks", "_law_k", "_law_keepers", "_law_holds", "_law_heard", "_law_note", "_law_takes", "_law_gives", "_law_functions", "_law_some", "_law_kinds", "_law_ask", "_law_j", "_law_q", "_law_one"] ["_law_deal_here"] (defScope st_l_heads) := ⟨rfl, rfl, rfl, by decide +kernel, rfl, by decide +kernel, by decide +kernel⟩
/-- a loop's list x, all else but the box in a frame -/
structure LS (F : Hp) (d l x : Addr) (us : List V) (J : Hp) : Prop where
  deal : DealAt J d l
  fr : Same F J
  no : F d = none ∧ F l = none ∧ F x = none
  xs : J x = some (.lst us)
  ne : x ≠ d ∧ x ≠ l
theorem LS.kp {F J J' : Hp} {d l x : Addr} {us : List V} (S : LS F d l x us J) (D : DealAt J' d l) (k : Kp d l J J') : LS F d l x us J' :=
  ⟨D, fun b o e => k _ _ (S.fr _ _ e) (fun z => (by rw [z, S.no.1] at e; cases e)) fun z => (by rw [z, S.no.2.1] at e; cases e), S.no, k _ _ S.xs S.ne.1 S.ne.2, S.ne⟩
theorem LS.same {F J J' : Hp} {d l x : Addr} {us : List V} (S : LS F d l x us J) (s : Same J J') : LS F d l x us J' := S.kp (S.deal.same s) (Kp.same s)
def offH (J : Hp) (d l x : Addr) : Hp := fun b => if b = d ∨ b = l ∨ b = x then none else J b
theorem off_at {J : Hp} {d l x b : Addr} {o : HO} (h : J b = some o) (h1 : b ≠ d) (h2 : b ≠ l) (h3 : b ≠ x) : offH J d l x b = some o := by
  unfold offH
  rw [if_neg (by rintro (z | z | z) <;> contradiction)]; exact h
theorem off_same (J : Hp) (d l x : Addr) : Same (offH J d l x) J := fun b o e => by
  unfold offH at e
  split at e
  · cases e
  · exact e
theorem LS.off {F J : Hp} {d l x : Addr} {us : List V} (S : LS F d l x us J) : Same F (offH J d l x) := fun b o e => off_at (S.fr _ _ e) (fun z => (by rw [z, S.no.1] at e; cases e)) (fun z => (by rw [z, S.no.2.1] at e; cases e)) fun z => (by rw [z, S.no.2.2] at e; cases e)
theorem LS.app {F J : Hp} {d l x : Addr} {us : List V} (S : LS F d l x us J) (v : V) : LS (offH J d l x) d l x (us ++ [v]) (upd J x (.lst (us ++ [v]))) := by
  refine ⟨S.deal.upd S.ne, fun b o e => ?_, ⟨?_, ?_, ?_⟩, upd_same, S.ne⟩
  · unfold offH at e
    split at e
    · cases e
    · rename_i h
      rw [upd_ne (fun z => h (.inr (.inr z)))]; exact e
  · unfold offH; exact if_pos (.inl rfl)
  · unfold offH; exact if_pos (.inr (.inl rfl))
  · unfold offH; exact if_pos (.inr (.inr rfl))
/-- tuples stay -/
theorem LS.tup {F J : Hp} {d l x : Addr} {us vs : List V} {p : Addr} (S : LS F d l x us J) (h : J p = some (.tup vs)) : offH J d l x p = some (.tup vs) := by
  have n := S.deal.not h (fun _ z => nomatch z) (fun _ z => nomatch z)
  exact off_at h n.1 n.2 (ne_of h S.xs fun z => nomatch z)
theorem LS.rep {F J : Hp} {d l x : Addr} {us : List V} (S : LS F d l x us J) : TupK J (offH J d l x) := fun p vs h => S.tup h
/-- a new list for a next loop -/
theorem LS.next {F J : Hp} {d l x y : Addr} {us : List V} (S : LS F d l x us J) (hy : J y = none) : LS (cutH J d l) d l y [] (upd J y (.lst [])) := by
  have n := S.deal.new hy
  exact ⟨S.deal.same (Same.new hy), (cut_same J d l).trans (Same.new hy), ⟨(cut_no J d l).1, (cut_no J d l).2, cut_none hy⟩, upd_same, n⟩
theorem LS.cut {F J : Hp} {d l x : Addr} {us : List V} (S : LS F d l x us J) : Same F (cutH J d l) := fun b o e => by
  have h := S.fr _ _ e
  unfold cutH
  rw [if_neg]
  · exact h
  · rintro (z | z)
    · rw [z, S.no.1] at e; cases e
    · rw [z, S.no.2.1] at e; cases e
theorem cut_at {J : Hp} {d l b : Addr} {o : HO} (h : J b = some o) (h1 : b ≠ d) (h2 : b ≠ l) : cutH J d l b = some o := by
  unfold cutH
  rw [if_neg (by rintro (z | z) <;> contradiction)]; exact h
theorem LS.reframe {F J : Hp} {d l x : Addr} {us : List V} (S : LS F d l x us J) : LS (offH J d l x) d l x us J := by
  refine ⟨S.deal, off_same _ _ _ _, ⟨?_, ?_, ?_⟩, S.xs, S.ne⟩
  · unfold offH; exact if_pos (.inl rfl)
  · unfold offH; exact if_pos (.inr (.inl rfl))
  · unfold offH; exact if_pos (.inr (.inr rfl))
theorem LS.nw {F J : Hp} {d l x b : Addr} {us : List V} (S : LS F d l x us J) (h : J b = none) : b ≠ d ∧ b ≠ l ∧ b ≠ x := ⟨(S.deal.new h).1, (S.deal.new h).2, (ne_of_none S.xs h).symm⟩
def KsOk (as : List AW) (ks : List KW) : Prop := ∀ k ∈ ks, ((k.note.plain ∨ ∃ q ∈ k.heard, k.note = .holds k.nm q) ∧ k.takes.plain ∧ k.gives.plain) ∧ k.heard.length ≤ 6 ∧ k.heard.Nodup ∧ ∀ q ∈ k.heard, ∃ a ∈ as, a.nm = q
def hksOf (ks : List KW) : List Kd := ks.flatMap fun k => k.heard.map (Kd.hold k.nm)
theorem strs_paired : ∀ xs : List Str, Paired (fun (x : Str) v => v = V.str x) xs (xs.map V.str)
  | [] => .nil
  | _ :: r => .cons rfl (strs_paired r)
theorem cutV_to {xs : List V} (n : Nat) : cutV xs none (some (n : Int)) = xs.take n := by
  unfold cutV
  rw [HT.sIx_nat, HT.sIx_none, List.drop_zero, Nat.sub_zero]
  by_cases h : n ≤ xs.length
  · rw [Nat.min_eq_left h]
  · rw [Nat.min_eq_right (by omega), List.take_of_length_le (Nat.le_refl _), List.take_of_length_le (by omega)]
theorem hks_app (ks : List KW) (k : KW) : hksOf (ks ++ [k]) = hksOf ks ++ k.heard.map (Kd.hold k.nm) := by
  unfold hksOf
  rw [List.flatMap_append]; simp
theorem w_merge (a b c d : Addr) : mergeK ([] : List (Key × V)) (wL a b c d) = wL a b c d := by
  show putK (putK (putK (putK [] (Sum.inr ("words" : Str)) (.ref a)) (Sum.inr ("asks" : Str)) (.ref b)) (Sum.inr ("keepers" : Str)) (.ref c)) (Sum.inr ("functions" : Str)) (.ref d) = wL a b c d
  rw [putK_new (kvs := []) _ rfl, putK_new (kvs := [] ++ [(Sum.inr ("words" : Str), V.ref a)]) _ ((valV_neg kWA).trans rfl), putK_new (kvs := [] ++ [(Sum.inr ("words" : Str), V.ref a)] ++ [(Sum.inr ("asks" : Str), V.ref b)]) _ ((valV_neg kWK).trans ((valV_neg kAK).trans rfl)), putK_new (kvs := [] ++ [(Sum.inr ("words" : Str), V.ref a)] ++ [(Sum.inr ("asks" : Str), V.ref b)] ++ [(Sum.inr ("keepers" : Str), V.ref c)]) _ ((valV_neg kWF).trans ((valV_neg kAF).trans ((valV_neg kKF).trans rfl)))]
  rfl
def FsOk (W : WW) (fs : List FW) : Prop := (∀ f ∈ fs, f.kinds.length ≤ 4 ∧ (∀ κ ∈ f.kinds, W.good κ) ∧ f.kind.plain) ∧ ∀ f, fs[0]? = some f → f.kinds = []
abbrev pl4 : List D := [Kd.num.d, Kd.num.d, Kd.num.d, Kd.nums.d]
theorem use_plain {K : PySem.W.Frag} {F J : Hp} {d l x : Addr} {us : List V} (S : LS F d l x us J) {pp : Addr} {up : List V} (hp : F pp = some (.lst up)) (rp : Reps F pl4 up) {σ : L2.St} {i j : Nat} (e : σ[i]? = some (some (.ref pp))) (e' : σ[j]? = some (some (.ref d))) {Q : VK}
    (k : ∀ v (κ : Kd) J', κ.plain → Rep F κ.d v → LS F d l x us J' → Kp d l J J' → Q v J') : tOp (rIxL K) (tVar i) (tCall spDraw [] L2.E0 (tCons (tVar j) (tCons (tC (.int 4)) tNil))) σ J Q := by
  refine ⟨_, e, _, e', d, l, 4, rfl, S.deal, by decide, by decide, fun r J' r0 r1 D' k' => ?_⟩
  have S' := S.kp D' k'
  obtain ⟨v0, _, rfl, q0, v1, _, rfl, q1, v2, _, rfl, q2, v3, _, rfl, q3, e3⟩ := rp
  cases (show _ = _ from e3)
  have : r = 0 ∨ r = 1 ∨ r = 2 ∨ r = 3 := by omega
  rcases this with rfl | rfl | rfl | rfl
  · exact ⟨pp, _, _, v0, rfl, rfl, SqL.of (S'.fr _ _ hp), rfl, k v0 .num J' trivial q0 S' k'⟩
  · exact ⟨pp, _, _, v1, rfl, rfl, SqL.of (S'.fr _ _ hp), rfl, k v1 .num J' trivial q1 S' k'⟩
  · exact ⟨pp, _, _, v2, rfl, rfl, SqL.of (S'.fr _ _ hp), rfl, k v2 .num J' trivial q2 S' k'⟩
  · exact ⟨pp, _, _, v3, rfl, rfl, SqL.of (S'.fr _ _ hp), rfl, k v3 .nums J' trivial q3 S' k'⟩
def wdAt (ws : List Str) (i : Nat) : Str := (ws[i]?).getD Str.empty
theorem wd_at {ws : List Str} (hl : ws.length = 96) {i : Nat} (h : i < 96) : ws[i]? = some (wdAt ws i) := by
  unfold wdAt
  rw [List.getElem?_eq_getElem (by omega)]; rfl
theorem wd_atI {ws : List Str} (hl : ws.length = 96) {i : Nat} (h : i < 96) : atI (ws.map V.str) (i : Int) = some (.str (wdAt ws i)) := atI_nat (by rw [List.getElem?_map, wd_at hl h]; rfl)
theorem wd_inj {ws : List Str} (hl : ws.length = 96) (hn : ws.Nodup) {i j : Nat} (hi : i < 96) (hj : j < 96) (e : wdAt ws i = wdAt ws j) : i = j := by
  have a := wd_at hl hi
  have b := wd_at hl hj
  rw [e] at a
  exact (List.getElem?_inj (i := i) (j := j) (by rw [hl]; omega) hn).mp (a.trans b.symm)
theorem wd_apart {ws : List Str} (hl : ws.length = 96) (hn : ws.Nodup) (f : Nat → Nat) (n : Nat) (hf : ∀ i < n, f i < 96) (inj : ∀ i < n, ∀ j < n, f i = f j → i = j) : ((List.range n).map fun i => wdAt ws (f i)).Nodup := by
  unfold List.Nodup
  rw [List.pairwise_map]
  refine List.Pairwise.imp_of_mem (fun {a b} ha hb hab z => hab ?_) List.nodup_range
  have ha := List.mem_range.mp ha
  have hb := List.mem_range.mp hb
  exact inj a ha b hb (wd_inj hl hn (hf a ha) (hf b hb) z)
def askIx (k : Nat) : Nat := if 3 < k then 88 + k else k
def spHeads : Sp := fun vs H Q _ => ∃ (d l : Addr), vs = [.ref d] ∧ DealAt H d l ∧ ∀ (w : Addr) (W : WW) (H' : Hp), BB d l w W H' → Kp d l H H' → Q (.ref w) H'
section
variable {P : Program} {w : World} {K : PySem.W.Frag} {mg : Str → Option Value} {base : Heap} {f1 f3 : Addr} {d1 d3 : FuncData}
theorem ok_l_heads {f : Addr} {fd : FuncData} (D : Fn K mg "_law_heads" st_l_heads ["_law_deal_here"] f fd) (T : BltB mg) (D_l_draw : Fn K mg "_law_draw" st_l_draw ["_law_deal_here", "_law_many"] f3 d3) (G_l_draw : FnOk P w K mg base CX0 1 f3 d3 ["_law_deal_here", "_law_many"] spDraw) (D_l_words : Fn K mg "_law_words" st_l_words ["_law_deal_here", "_law_many"] f1 d1) (G_l_words : FnOk P w K mg base CX0 2 f1 d1 ["_law_deal_here", "_law_many"] spWordsN) : FnOk P w K mg base CX0 3 f fd ["_law_deal_here"] spHeads := by
  refine D.F.ok sc_l_heads (fun vs H Q E h => ?_) (fun cdv A outer s H vs Q E hr h => ?_)
  · obtain ⟨d, l, rfl, _⟩ := h
    rfl
  · obtain ⟨d, l, rfl, hD, k⟩ := h
    have hu := hu_of hr
    refine ⟨_, (pss_cons (ps_set (i := 1) sc_l_heads.nd rfl (Or.inr rfl) (pe_call G_l_words (hr.mono (by decide)) rfl D_l_words.mg D_l_words.kp D_l_words.b .nil pass0 (pa_cons (pv 0) (pa_cons pe_int pa_nil))))
      (pss_cons (ps_set (i := 2) sc_l_heads.nd rfl (Or.inl rfl) (pe_lst (pa_cons (pe_tup (pa_cons pe_str pa_nil)) (pa_cons (pe_tup (pa_cons pe_str pa_nil)) (pa_cons (pe_tup (pa_cons pe_str pa_nil)) (pa_cons (pe_tup (pa_cons pe_str pa_nil)) pa_nil))))))
      (pss_cons (ps_set (i := 3) sc_l_heads.nd rfl (Or.inl rfl) (pe_lst pa_nil))
      (pss_cons (ps_for PassesOwn.never rfl (pi_range1 rfl T.range (pa_cons (pe_op op_add pe_int (pe_call G_l_draw (hr.mono (by decide)) rfl D_l_draw.mg D_l_draw.kp D_l_draw.b .nil pass0 (pa_cons (pv 0) (pa_cons (pe_ix ix_list (pe_lst (pa_cons pe_int (pa_cons pe_int pa_nil))) (pe_callTy call_int1 (by rfl) T.int (by decide +kernel) (pa_cons (pe_cmpR op_eq (pe_call G_l_draw (hr.mono (by decide)) rfl D_l_draw.mg D_l_draw.kp D_l_draw.b .nil pass0 (pa_cons (pv 0) (pa_cons pe_int pa_nil))) pe_int (nomark _)) pa_nil)) (fun _ _ => rfl)) pa_nil)))) pa_nil)) (pg_name (i := 4) sc_l_heads.nd rfl (Or.inr rfl)) (pss_one (ps_expr (pe_bm PySem.F.plainAttrs_list PySem.F.slot_list_append PySem.F.type_list_append mt_append (pv 3) (pa_cons (pe_tup (pa_cons (pe_ix ix_list (pe_lst (pa_cons (pe_ix ix_list (pv 1) (pv 4) (fun _ _ => rfl)) (pa_cons (pe_ix ix_list (pv 1) (pe_op op_add pe_int (pv 4)) (fun _ _ => rfl)) pa_nil))) (pe_callTy call_int1 (by rfl) T.int (by decide +kernel) (pa_cons (pe_cmpR op_gt (pv 4) pe_int (nomark _)) pa_nil)) (fun _ _ => rfl)) (pa_cons (pe_ix ix_list (pv 2) (pe_call G_l_draw (hr.mono (by decide)) rfl D_l_draw.mg D_l_draw.kp D_l_draw.b .nil pass0 (pa_cons (pv 0) (pa_cons pe_int pa_nil))) (fun _ _ => rfl)) (pa_cons (pe_ix ix_list (pv 2) (pe_call G_l_draw (hr.mono (by decide)) rfl D_l_draw.mg D_l_draw.kp D_l_draw.b .nil pass0 (pa_cons (pv 0) (pa_cons pe_int pa_nil))) (fun _ _ => rfl)) pa_nil)))) pa_nil)))))
      (pss_cons (ps_set (i := 5) sc_l_heads.nd rfl (Or.inl rfl) (pe_lst pa_nil))
      (pss_cons (ps_set (i := 6) sc_l_heads.nd rfl (Or.inl rfl) (pe_lst pa_nil))
      (pss_cons (ps_for PassesOwn.never rfl (pi_range1 rfl T.range (pa_cons (pe_op op_add pe_int (pe_call G_l_draw (hr.mono (by decide)) rfl D_l_draw.mg D_l_draw.kp D_l_draw.b .nil pass0 (pa_cons (pv 0) (pa_cons pe_int pa_nil)))) pa_nil)) (pg_name (i := 4) sc_l_heads.nd rfl (Or.inr rfl)) (pss_cons (ps_setLc (i := 7) (own := [("_law_ask", 14)]) (g := gName 14) (tt := tTest (tOp (rI0 fun i j => V.bl (decide (j < i))) (tCall spDraw [] E0 (tCons (tVar 0) (tCons (tC (V.int 4)) tNil))) (tC (V.int 0)))) (te := (tOp (rIxT K) (tVar 14) (tC (V.int 0)))) rfl sc_l_heads.nd rfl rfl (sw_true rfl rfl rfl (by decide +kernel)) (pi_list (pv 3)) (blkOk_by (own := [("_law_ask", 14)]) (N := ["_law_deal_here", "_law_words_here", "_law_plain", "_law_asks", "_law_k", "_law_keepers", "_law_holds", "_law_heard", "_law_note", "_law_takes", "_law_gives", "_law_functions", "_law_some", "_law_kinds", "_law_ask", "_law_j", "_law_q", "_law_one"]) (sc := defScope st_l_heads) (by decide +kernel)) (fun _ _ _ _ _ => (pg_name (i := 14) sc_l_heads.nd rfl (Or.inl rfl))) (fun _ _ _ _ _ => (pts_one (pt_cmpR op_gt (pe_call G_l_draw (hr.mono (by decide)) rfl D_l_draw.mg D_l_draw.kp D_l_draw.b .nil pass0 (pa_cons (pv 0) (pa_cons pe_int pa_nil))) pe_int (nomark _)))) (fun _ _ _ _ _ => (pe_ix ix_tup (pv 14) pe_int (fun _ _ => rfl))))
      (pss_cons (ps_set (i := 8) sc_l_heads.nd rfl (Or.inl rfl) (pe_ix ix_list (pv 2) (pe_call G_l_draw (hr.mono (by decide)) rfl D_l_draw.mg D_l_draw.kp D_l_draw.b .nil pass0 (pa_cons (pv 0) (pa_cons pe_int pa_nil))) (fun _ _ => rfl)))
      (C8.pss_cut (ps_if (PW.pt (pw_and (pt_cmpR op_gt (pe_callB call_len_seq (by rfl) T.len (by decide +kernel) (pa_cons (pv 7) pa_nil)) pe_int (nomark _)) (pw_and1 (pt_cmpR op_eq (pe_call G_l_draw (hr.mono (by decide)) rfl D_l_draw.mg D_l_draw.kp D_l_draw.b .nil pass0 (pa_cons (pv 0) (pa_cons pe_int pa_nil))) pe_int (nomark _))))) (pss_one (ps_set (i := 8) sc_l_heads.nd rfl (Or.inl rfl) (pe_tup (pa_cons pe_str (pa_cons (pe_ix ix_list (pv 1) (pe_op op_add pe_int (pv 4)) (fun _ _ => rfl)) (pa_cons (pe_ix ix_list (pv 7) (pe_call G_l_draw (hr.mono (by decide)) rfl D_l_draw.mg D_l_draw.kp D_l_draw.b .nil pass0 (pa_cons (pv 0) (pa_cons (pe_callB call_len_seq (by rfl) T.len (by decide +kernel) (pa_cons (pv 7) pa_nil)) pa_nil))) (fun _ _ => rfl)) pa_nil)))))) pss_nil)
      (pss_cons (ps_par (i := 9) (j := 10) (by rfl) sc_l_heads.nd rfl rfl (by decide) rfl rfl (pa_cons (pe_ix ix_list (pv 2) (pe_call G_l_draw (hr.mono (by decide)) rfl D_l_draw.mg D_l_draw.kp D_l_draw.b .nil pass0 (pa_cons (pv 0) (pa_cons pe_int pa_nil))) (fun _ _ => rfl)) (pa_cons (pe_ix ix_list (pv 2) (pe_call G_l_draw (hr.mono (by decide)) rfl D_l_draw.mg D_l_draw.kp D_l_draw.b .nil pass0 (pa_cons (pv 0) (pa_cons pe_int pa_nil))) (fun _ _ => rfl)) pa_nil)) (by rfl))
      (pss_cons (ps_expr (pe_bm PySem.F.plainAttrs_list PySem.F.slot_list_append PySem.F.type_list_append mt_append (pv 5) (pa_cons (pe_tup (pa_cons (pe_ix ix_list (pv 1) (pe_op op_add pe_int (pv 4)) (fun _ _ => rfl)) (pa_cons (pv 8) (pa_cons (pv 9) (pa_cons (pv 10) (pa_cons (pv 7) pa_nil)))))) pa_nil)))
      (pss_one (ps_set (i := 6) sc_l_heads.nd rfl (Or.inl rfl) (pe_op op_cat (pv 6) (pe_lc (own := [("_law_q", 16)]) (g := gName 16) (tt := tYes) (te := (tTup (tCons (tC (V.str "hold")) (tCons (tOp (rIxL K) (tVar 1) (tOp (rI0 fun i j => V.int (i + j)) (tC (V.int 4)) (tVar 4))) (tCons (tVar 16) tNil))))) rfl sc_l_heads.nd (pi_list (pv 7)) (blkOk_by (own := [("_law_q", 16)]) (N := ["_law_deal_here", "_law_words_here", "_law_plain", "_law_asks", "_law_k", "_law_keepers", "_law_holds", "_law_heard", "_law_note", "_law_takes", "_law_gives", "_law_functions", "_law_some", "_law_kinds", "_law_ask", "_law_j", "_law_q", "_law_one"]) (sc := defScope st_l_heads) (by decide +kernel)) (fun _ _ _ _ _ => (pg_name (i := 16) sc_l_heads.nd rfl (Or.inl rfl))) (fun _ _ _ _ _ => pts_nil) (fun _ _ _ _ _ => (pe_tup (pa_cons pe_str (pa_cons (pe_ix ix_list (pv 1) (pe_op op_add pe_int (pv 4)) (fun _ _ => rfl)) (pa_cons (pv 16) pa_nil)))))))))))))))
      (pss_cons (ps_set (i := 11) sc_l_heads.nd rfl (Or.inl rfl) (pe_lst pa_nil))
      (pss_cons (ps_for PassesOwn.never rfl (pi_range1 rfl T.range (pa_cons (pe_op op_add pe_int (pe_call G_l_draw (hr.mono (by decide)) rfl D_l_draw.mg D_l_draw.kp D_l_draw.b .nil pass0 (pa_cons (pv 0) (pa_cons pe_int pa_nil)))) pa_nil)) (pg_name (i := 4) sc_l_heads.nd rfl (Or.inr rfl)) (pss_cons (ps_set (i := 12) sc_l_heads.nd rfl (Or.inr rfl) (pe_op op_cat (pe_op op_cat (pe_op op_cat (pv 2) (pv 2)) (pv 6)) (pe_lc (own := [("_law_one", 17)]) (g := gName 17) (tt := tYes) (te := (tOp (rCatA K) (tTup (tCons (tC (V.str "holds")) tNil)) (tSl (rSlA K) (tVar 17) (tPart (tC (V.int 1))) tNoPart))) rfl sc_l_heads.nd (pi_list (pe_slice sl_list (pv 6) po_none (po_some pe_int))) (blkOk_by (own := [("_law_one", 17)]) (N := ["_law_deal_here", "_law_words_here", "_law_plain", "_law_asks", "_law_k", "_law_keepers", "_law_holds", "_law_heard", "_law_note", "_law_takes", "_law_gives", "_law_functions", "_law_some", "_law_kinds", "_law_ask", "_law_j", "_law_q", "_law_one"]) (sc := defScope st_l_heads) (by decide +kernel)) (fun _ _ _ _ _ => (pg_name (i := 17) sc_l_heads.nd rfl (Or.inl rfl))) (fun _ _ _ _ _ => pts_nil) (fun _ _ _ _ _ => (pe_op op_catA (pe_tup (pa_cons pe_str pa_nil)) (pe_slice sl_tupA (pv 17) (po_some pe_int) po_none))))))
      (pss_cons (ps_setLc (i := 13) (own := [("_law_j", 15)]) (g := gName 15) (tt := tYes) (te := (tOp (rIxL K) (tVar 12) (tCall spDraw [] E0 (tCons (tVar 0) (tCons (tCB (fun xs H Q => ∃ p ys, xs = [V.ref p] ∧ (SqL K H p ys ∨ SqT K H p ys) ∧ Q (V.int (ys.length : Int)) H) (tCons (tVar 12) tNil)) tNil))))) rfl sc_l_heads.nd rfl rfl (sw_true rfl rfl rfl (by decide +kernel)) (pi_range1 rfl T.range (pa_cons (pe_op op_mul (pe_call G_l_draw (hr.mono (by decide)) rfl D_l_draw.mg D_l_draw.kp D_l_draw.b .nil pass0 (pa_cons (pv 0) (pa_cons pe_int pa_nil))) (pe_callTy call_int1 (by rfl) T.int (by decide +kernel) (pa_cons (pe_cmpR op_gt (pv 4) pe_int (nomark _)) pa_nil))) pa_nil)) (blkOk_by (own := [("_law_j", 15)]) (N := ["_law_deal_here", "_law_words_here", "_law_plain", "_law_asks", "_law_k", "_law_keepers", "_law_holds", "_law_heard", "_law_note", "_law_takes", "_law_gives", "_law_functions", "_law_some", "_law_kinds", "_law_ask", "_law_j", "_law_q", "_law_one"]) (sc := defScope st_l_heads) (by decide +kernel)) (fun _ _ _ _ _ => (pg_name (i := 15) sc_l_heads.nd rfl (Or.inl rfl))) (fun _ _ _ _ _ => pts_nil) (fun _ _ _ _ _ => (pe_ix ix_list (pv 12) (pe_call G_l_draw (hr.mono (by decide)) rfl D_l_draw.mg D_l_draw.kp D_l_draw.b .nil pass0 (pa_cons (pv 0) (pa_cons (pe_callB call_len_seq (by rfl) T.len (by decide +kernel) (pa_cons (pv 12) pa_nil)) pa_nil))) (fun _ _ => rfl))))
      (pss_one (ps_expr (pe_bm PySem.F.plainAttrs_list PySem.F.slot_list_append PySem.F.type_list_append mt_append (pv 11) (pa_cons (pe_tup (pa_cons (pe_ix ix_list (pv 1) (pe_op op_add pe_int (pv 4)) (fun _ _ => rfl)) (pa_cons (pv 13) (pa_cons (pe_ix ix_list (pv 2) (pe_call G_l_draw (hr.mono (by decide)) rfl D_l_draw.mg D_l_draw.kp D_l_draw.b .nil pass0 (pa_cons (pv 0) (pa_cons pe_int pa_nil))) (fun _ _ => rfl)) pa_nil)))) pa_nil)))))))
      (pss_one (ps_ret (pe_disp (pps_cons pe_str (pv 1) (pps_cons pe_str (pv 3) (pps_cons pe_str (pv 5) (pps_cons pe_str (pv 11) pps_nil)))) (by rfl) (by rfl) (fun z => by cases z) (by decide))))))))))))), ?_⟩
    refine ⟨_, rfl, d, l, 96, rfl, by decide, hD, fun pw ws J1 nw hw wl wi wn D1 k1 => ?_⟩
    have npw := hD.new nw
    refine gN ?_
    dsimp only
    refine sA (lst_use (ds := pl4) (by exact mk_cons mk_kn (mk_cons mk_kn (mk_cons mk_kn (mk_cons (mk_tup (mk_cons mk_str mk_nil) le1000) mk_nil)))) (Same.refl J1) le1000 fun pp up J2 np hp rp s2 => ?_)
    have npp := D1.new np
    have D2 := D1.same s2
    refine gN ?_
    refine ⟨Nat.zero_le _, fun pa ha => ?_⟩
    refine gN ?_
    have hw2 := s2 _ _ hw
    have S0 : LS (cutH J2 d l) d l pa [] (upd J2 pa (.lst [])) := ⟨D2.same (Same.new ha), (cut_same J2 d l).trans (Same.new ha), ⟨(cut_no J2 d l).1, (cut_no J2 d l).2, cut_none ha⟩, upd_same, D2.new ha⟩
    have f0 : Same (cutH H d l) (cutH J2 d l) := cut_mono (k1.trans (Kp.same s2))
    have fw : cutH J2 d l pw = some (.lst (ws.map V.str)) := cut_at hw2 npw.1 npw.2
    have fp : cutH J2 d l pp = some (.lst up) := cut_at hp npp.1 npp.2
    have tkc : TupK J2 (cutH J2 d l) := fun p vs h => by
      have n := D2.not h (fun _ z => nomatch z) (fun _ z => nomatch z)
      exact cut_at h n.1 n.2
    have rp0 := rp.mono tkc
    generalize cutH J2 d l = F0 at S0 f0 fw fp rp0
    generalize upd J2 pa (.lst []) = J3 at S0 ⊢
    clear hw2 tkc D2 npp s2 rp hp np npw D1 k1 hw nw ha
    -- the asks
    dsimp only
    refine sFor1 (oC ?_)
    refine ⟨_, rfl, by show 2 ≤ sizeLine; decide, fun X hX => ⟨_, rfl, d, l, 4, rfl, (S0.same (Same.new hX)).deal, by decide, by decide, fun r J4 r0 r1 D4 k4 => ⟨rfl, .inr ⟨_, rfl, ?_⟩⟩⟩⟩
    have nX := S0.deal.new hX
    have hX4 := k4 _ _ upd_same nX.1 nX.2
    have S4 := (S0.same (Same.new hX)).kp D4 k4
    obtain ⟨m, hm, hm6⟩ : ∃ m : Int, atI [V.int 3, V.int 6] (if decide (V.int r = V.int 0) = true then (1 : Int) else 0) = some (.int m) ∧ (1 ≤ m ∧ m ≤ 6) := by
      cases decide (V.int r = V.int 0)
      · exact ⟨3, rfl, by omega⟩
      · exact ⟨6, rfl, by omega⟩
    refine ⟨X, _, _, _, rfl, rfl, SqL.of hX4, hm, d, l, m, rfl, S4.deal, by omega, by omega, fun r2 J5 q0 q1 D5 k5 => ⟨_, _, rfl, rfl, 1 + r2, rfl, by omega, by omega, ?_⟩⟩
    have S5 := S4.kp D5 k5
    clear S4 S0 hX nX hX4 D4 k4 D5 k5 hm r0 r1
    refine for_range (lo := 0) (n := (1 + r2).toNat) (fun i σ J => ∃ (F : Hp) (as : List AW) (ua : List V) (o4 : Option V), Same F0 F ∧ LS F d l pa ua J ∧ Reps F (as.map AW.d) ua ∧ as.map (·.nm) = (List.range i).map (fun k => wdAt ws (askIx k)) ∧ (∀ a ∈ as, a.of.plain ∧ a.gives.plain) ∧ σ = [some (.ref d), some (.ref pw), some (.ref pp), some (.ref pa), o4, none, none, none, none, none, none, none, none, none, none, none, none, none]) ⟨F0, [], [], _, Same.refl _, S5, rfl, rfl, (fun _ z => nomatch z), rfl⟩ (fun i σ J hi q => ?_) fun σ J q => ?_
    · obtain ⟨F, as, ua, o4, sF, S, ra, hn, hp, rfl⟩ := q
      have hi6 : i < 6 := by omega
      have la : as.length = i := by
        have := congrArg List.length hn
        rw [List.length_map, List.length_map, List.length_range] at this; exact this
      have lu : ua.length = i := by rw [Reps.len ra, List.length_map, la]
      have hkk : (0 : Int) + (i : Int) = ((i : Nat) : Int) := by omega
      have hk2 : (88 : Int) + (0 + (i : Int)) = ((88 + i : Nat) : Int) := by omega
      have S' := S
      refine ⟨_, rfl, .inl ⟨rfl, _, SqL.of S.xs⟩, ?_⟩
      refine ⟨_, rfl, _, rfl, pw, _, _, _, rfl, rfl, SqL.of (S.fr _ _ (sF _ _ fw)), (by rw [hkk]; exact wd_atI wl (by omega)), _, rfl, _, rfl, _, _, rfl, rfl, pw, _, _, _, rfl, rfl, SqL.of (S.fr _ _ (sF _ _ fw)), (by rw [hk2]; exact wd_atI wl (by omega)), by show 2 ≤ sizeLine; decide, fun X hX => ⟨_, rfl, _, _, rfl, rfl, .inr ⟨_, rfl, X, _, _, .str (wdAt ws (askIx i)), rfl, rfl, SqL.of upd_same, ?_, ?_⟩⟩⟩
      · unfold askIx
        by_cases c : 3 < i
        · rw [if_pos c, decide_eq_true (by omega), if_pos rfl]; rfl
        · rw [if_neg c, decide_eq_false (by omega), if_neg (by decide)]; rfl
      · have S1 := S.same (Same.new (o := .lst [V.str (wdAt ws i), V.str (wdAt ws (88 + i))]) hX)
        refine use_plain S1 (sF _ _ fp) (rp0.mono (TupK.same sF)) (by exact rfl) (by exact rfl) fun v1 κ1 J6 p1 q1 S2 k2 => ?_
        refine use_plain S2 (sF _ _ fp) (rp0.mono (TupK.same sF)) (by exact rfl) (by exact rfl) fun v2 κ2 J7 p2 q2 S3 k3 => ?_
        refine ⟨by show 3 ≤ sizeLine; decide, fun t ht => ?_⟩
        have s4 := Same.new (o := .tup [V.str (wdAt ws (askIx i)), v1, v2]) ht
        have S4 := S3.same s4
        have tk3 : TupK F J7 := TupK.same S3.fr
        have rt : Rep (upd J7 t (.tup [V.str (wdAt ws (askIx i)), v1, v2])) (AW.d ⟨wdAt ws (askIx i), κ1, κ2⟩) (.ref t) := Rep.new (ds := [.s (wdAt ws (askIx i)), κ1.d, κ2.d]) (vs := [V.str (wdAt ws (askIx i)), v1, v2]) ht (Reps.cons rfl (Reps.cons (q1.mono tk3) (Reps.cons (q2.mono tk3) rfl)))
        refine ⟨pa, ua, _, rfl, rfl, S4.xs, small1000 (by omega), offH _ d l pa, as ++ [⟨wdAt ws (askIx i), κ1, κ2⟩], ua ++ [.ref t], _, sF.trans S4.off, S4.app _, ?_, ?_, fun a ha => ?_, rfl⟩
        · rw [List.map_append]
          exact Reps.append (ra.mono (TupK.same S4.off)) (Reps.cons (rt.mono S4.rep) rfl)
        · rw [List.range_succ, List.map_append, List.map_append, hn]; rfl
        · rcases List.mem_append.mp ha with ha | ha
          · exact hp a ha
          · rw [List.mem_singleton.mp ha]; exact ⟨p1, p2⟩
    · obtain ⟨F, as, ua, o4, sF, S, ra, hn, hap, rfl⟩ := q
      have la : as.length = (1 + r2).toNat := by
        have := congrArg List.length hn
        rw [List.length_map, List.length_map, List.length_range] at this; exact this
      have hal : 1 ≤ as.length ∧ as.length ≤ 6 := by omega
      have hnd : (as.map (·.nm)).Nodup := by
        rw [hn]
        refine wd_apart wl wn askIx _ (fun i hi => ?_) fun i hi j hj e => ?_
        · unfold askIx; split <;> omega
        · unfold askIx at e
          split at e <;> split at e <;> omega
      have hai : ∀ a ∈ as, isName a.nm = true := fun a ha => by
        have : a.nm ∈ as.map (·.nm) := List.mem_map.mpr ⟨a, ha, rfl⟩
        rw [hn] at this
        obtain ⟨i, hi, e⟩ := List.mem_map.mp this
        have hi := List.mem_range.mp hi
        rw [← e]
        exact wi _ (List.mem_of_getElem? (wd_at wl (by unfold askIx; split <;> omega)))
      have lua : ua.length ≤ 6 := by rw [Reps.len ra, List.length_map]; omega
      dsimp only
      refine ⟨Nat.zero_le _, fun pk hk => ?_⟩
      refine gN ?_
      refine ⟨Nat.zero_le _, fun ph0 hh => ?_⟩
      refine gN ?_
      have S1 := (S.next hk).same (Same.new (o := .lst []) hh)
      have S2 := S1.reframe
      have n0 := (S.next hk).nw hh
      have f1 : Same F (offH (upd (upd J pk (.lst [])) ph0 (.lst [])) d l pk) := S.cut.trans S1.off
      have fa : offH (upd (upd J pk (.lst [])) ph0 (.lst [])) d l pk pa = some (.lst ua) := S1.off _ _ (cut_at S.xs S.ne.1 S.ne.2)
      have fh : offH (upd (upd J pk (.lst [])) ph0 (.lst [])) d l pk ph0 = some (.lst []) := off_at upd_same n0.1 n0.2.1 n0.2.2
      generalize offH (upd (upd J pk (.lst [])) ph0 (.lst [])) d l pk = F1 at S2 f1 fa fh
      generalize upd (upd J pk (.lst [])) ph0 (.lst []) = J6 at S2 ⊢
      have sF1 := sF.trans f1
      have ra1 := ra.mono (TupK.same f1)
      have fw1 := sF1 _ _ fw
      have fp1 := sF1 _ _ fp
      have rp1 := rp0.mono (TupK.same sF1)
      have f01 := f0.trans sF1
      clear S1 S f1 n0 hh hk sF ra sF1 S5
      dsimp only
      -- the keepers
      refine sFor1 (oC ?_)
      refine ⟨_, rfl, d, l, 2, rfl, S2.deal, by decide, by decide, fun r3 J7 q0 q1 D7 k7 => ⟨_, _, rfl, rfl, 1 + r3, rfl, by omega, by omega, ?_⟩⟩
      have S7 := S2.kp D7 k7
      clear S2 D7 k7
      refine for_range (lo := 0) (n := (1 + r3).toNat) (fun i σ J => ∃ (F : Hp) (ks : List KW) (uk : List V) (ph : Addr) (uh : List V) (o4 o7 o8 o9 o10 : Option V), Same F1 F ∧ LS F d l pk uk J ∧ Paired (KwAt F) ks uk ∧ F ph = some (.lst uh) ∧ Reps F ((hksOf ks).map Kd.d) uh ∧ ks.map (·.nm) = (List.range i).map (fun k => wdAt ws (4 + k)) ∧ KsOk as ks ∧ σ = [some (.ref d), some (.ref pw), some (.ref pp), some (.ref pa), o4, some (.ref pk), some (.ref ph), o7, o8, o9, o10, none, none, none, none, none, none, none]) ⟨F1, [], [], ph0, [], _, _, _, _, _, Same.refl _, S7, .nil, fh, rfl, rfl, (fun _ z => nomatch z), rfl⟩ (fun i σ J hi q => ?_) fun σ J q => ?_
      · obtain ⟨F, ks, uk, ph, uh, o4, o7, o8, o9, o10, sF, S, pk1, fph, rh, hkn, hko, rfl⟩ := q
        have hi2 : i < 2 := by omega
        have lk : ks.length = i := by
          have := congrArg List.length hkn
          rw [List.length_map, List.length_map, List.length_range] at this; exact this
        have luk : uk.length = i := by rw [← paired_len pk1, lk]
        have hkk : (0 : Int) + (i : Int) = ((i : Nat) : Int) := by omega
        have hk4 : (4 : Int) + (0 + (i : Int)) = ((4 + i : Nat) : Int) := by omega
        have ra2 := ra1.mono (TupK.same sF)
        refine ⟨_, rfl, pa, rfl, ⟨_, SqL.of (S.fr _ _ (sF _ _ fa))⟩, fun M hM => L2.lc_it (walk_list (xs := ua)) (fun j J' => ∃ sub : List AW, List.Sublist sub (as.take j) ∧ J' M = some (.lst (sub.map fun a => V.str a.nm)) ∧ DealAt J' d l ∧ Kp d l J J') ⟨[], List.nil_sublist _, upd_same, S.deal.same (Same.new hM), Kp.same (Same.new hM)⟩ (fun j J' _ z => ?_) (fun j x J' J1 hj z yy => ?_) fun J' z => ?_⟩
        · obtain ⟨sub, _, _, D', k'⟩ := z
          exact SqL.of ((S.kp D' k').fr _ _ (sF _ _ fa))
        · obtain ⟨rfl, ex⟩ := yy
          obtain ⟨sub, hs, hJ, D', k'⟩ := z
          have nM := S.nw hM
          obtain ⟨aw, eaw, hat⟩ := paired_get (reps_paired ra2) ex
          obtain ⟨p, va, vb, rfl, hp, _⟩ := AW.at hat
          refine ⟨rfl, ?_⟩
          refine ⟨_, rfl, d, l, 4, rfl, D', by decide, by decide, fun r J2 r0 r1 D2 k2 => ⟨_, _, rfl, rfl, _, rfl, ite2 (fun c => ?_) fun c => ?_⟩⟩
          · have hJ2 := k2 _ _ hJ nM.1 nM.2.1
            have hs2 : List.Sublist (sub ++ [aw]) (as.take (j + 1)) := by
              rw [List.take_add_one, eaw]
              exact List.Sublist.append hs (List.Sublist.refl _)
            have ls : sub.length ≤ 6 := Nat.le_trans hs.length_le (by rw [List.length_take]; omega)
            refine ⟨_, rfl, p, _, 0, _, rfl, rfl, SqT.of ((S.kp D2 (k'.trans k2)).fr _ _ hp), at0 _ _, _, hJ2, small1000 (by rw [List.length_map]; omega), sub ++ [aw], hs2, by rw [upd_same, List.map_append]; rfl, D2.upd ⟨nM.1, nM.2.1⟩, Kp.mut (Kp.refl _ _ _) (k'.trans k2) hM⟩
          · refine ⟨sub, ?_, k2 _ _ hJ nM.1 nM.2.1, D2, k'.trans k2⟩
            rw [List.take_add_one]
            exact hs.trans (List.sublist_append_left _ _)
        · obtain ⟨sub, hs, hJ, D', k'⟩ := z
          rw [List.take_of_length_le (by rw [Reps.len ra1, List.length_map]; exact Nat.le_refl _)] at hs
          have nM := S.nw hM
          have S1 := S.kp D' k'
          have hhd : (sub.map (·.nm)).Nodup := List.Nodup.sublist (hs.map _) hnd
          have hhl : (sub.map (·.nm)).length ≤ 6 := by rw [List.length_map]; exact Nat.le_trans hs.length_le hal.2
          have hhm : ∀ q ∈ sub.map (·.nm), ∃ a ∈ as, a.nm = q := fun q hq => by
            obtain ⟨a, ha, e⟩ := List.mem_map.mp hq
            exact ⟨a, hs.subset ha, e⟩
          have hJ : J' M = some (.lst ((sub.map (·.nm)).map V.str)) := by rw [hJ, List.map_map]; rfl
          generalize sub.map (·.nm) = heard at hhd hhl hhm hJ
          clear hs D' k'
          refine gN ?_
          refine sA (use_plain S1 (sF _ _ fp1) (rp1.mono (TupK.same sF)) (by exact rfl) (by exact rfl) fun nv κn J2 pn rn S2 k2 => ?_)
          have hJ2 := k2 _ _ hJ nM.1 nM.2.1
          refine gN ?_
          refine ⟨fun σ J3 => ∃ (κn : Kd) (nv : V), σ = [some (.ref d), some (.ref pw), some (.ref pp), some (.ref pa), some (.int (0 + (i : Int))), some (.ref pk), some (.ref ph), some (.ref M), some nv, o9, o10, none, none, none, none, none, none, none] ∧ LS F d l pk uk J3 ∧ J3 M = some (.lst (heard.map V.str)) ∧ Rep J3 κn.d nv ∧ (κn.plain ∨ ∃ q ∈ heard, κn = .holds (wdAt ws (4 + i)) q), ?_, fun σ J3 q => ?_⟩
          · refine decK_if (d := d) (l := l) (decK_and (by exact decK_of (decS_gt (n := 0) rfl hJ2)) fun J3 D3 k3 _ => by exact decK_draw (n := 3) (c := 0) rfl (by decide) (by decide)) S2.deal (fun J3 D3 k3 p3 => ?_) fun J3 D3 k3 p3 => ?_
            · have S3 := S2.kp D3 k3
              have hJ3 := k3 _ _ hJ2 nM.1 nM.2.1
              have lh := p3.1
              rw [List.length_map] at lh
              refine ⟨_, rfl, _, rfl, _, _, rfl, rfl, pw, _, _, _, rfl, rfl, SqL.of (S3.fr _ _ (sF _ _ fw1)), (by rw [hk4]; exact wd_atI wl (by omega)), _, rfl, _, rfl, _, rfl, M, _, rfl, .inl (SqL.of hJ3), d, l, _, rfl, S3.deal, by rw [List.length_map]; omega, by rw [List.length_map]; omega, fun r J4 r0 r1 D4 k4 => ?_⟩
              have S4 := S3.kp D4 k4
              have hJ4 := k4 _ _ hJ3 nM.1 nM.2.1
              obtain ⟨v, hv, hin⟩ := atI_in r0 r1
              obtain ⟨q, hq, rfl⟩ := List.mem_map.mp hin
              refine ⟨M, _, _, _, rfl, rfl, SqL.of hJ4, hv, by show 3 ≤ sizeLine; decide, fun t ht => ?_⟩
              have st := Same.new (o := .tup [V.str ("holds" : Str), V.str (wdAt ws (4 + i)), V.str q]) ht
              exact ⟨.holds (wdAt ws (4 + i)) q, .ref t, rfl, S4.same st, st _ _ hJ4, Rep.new (ds := [.s "holds", .s (wdAt ws (4 + i)), .s q]) ht (Reps.cons rfl (Reps.cons rfl (Reps.cons rfl rfl))), .inr ⟨q, hq, rfl⟩⟩
            · have S3 := S2.kp D3 k3
              exact ⟨κn, nv, rfl, S3, k3 _ _ hJ2 nM.1 nM.2.1, rn.mono (TupK.same S3.fr), .inl pn⟩
          · clear S2 hJ2 k2 rn pn S1 hJ nv κn
            obtain ⟨κn, nv, rfl, S3, hJ3, rn, pn⟩ := q
            refine use_plain S3 (sF _ _ fp1) (rp1.mono (TupK.same sF)) (by exact rfl) (by exact rfl) fun v1 κ1 J4 p1 rv1 S4 k4 => ?_
            refine use_plain S4 (sF _ _ fp1) (rp1.mono (TupK.same sF)) (by exact rfl) (by exact rfl) fun v2 κ2 J5 p2 rv2 S5 k5 => ⟨_, _, rfl, ?_⟩
            have hJ5 := k5 _ _ (k4 _ _ hJ3 nM.1 nM.2.1) nM.1 nM.2.1
            have rn5 := (rn.mono (TupK.kp S3.deal k4)).mono (TupK.kp S4.deal k5)
            refine ⟨_, rfl, .inl ⟨rfl, _, SqL.of S5.xs⟩, ?_⟩
            refine ⟨_, rfl, _, rfl, _, _, rfl, rfl, pw, _, _, _, rfl, rfl, SqL.of (S5.fr _ _ (sF _ _ fw1)), (by rw [hk4]; exact wd_atI wl (by omega)), _, rfl, _, rfl, _, rfl, _, rfl, by show 5 ≤ sizeLine; decide, fun t ht => ?_⟩
            have st := Same.new (o := .tup [V.str (wdAt ws (4 + i)), nv, v1, v2, .ref M]) ht
            have S6 := S5.same st
            have hJ6 := st _ _ hJ5
            have at6 := upd_same (H := J5) (a := t) (o := .tup [V.str (wdAt ws (4 + i)), nv, v1, v2, .ref M])
            have rn6 := rn5.mono (TupK.same st)
            generalize upd J5 t (.tup [V.str (wdAt ws (4 + i)), nv, v1, v2, .ref M]) = J6 at S6 hJ6 at6 rn6 ⊢
            refine ⟨pk, uk, _, rfl, rfl, S6.xs, small1000 (by omega), ?_⟩
            have fM : offH J6 d l pk M = some (.lst (heard.map V.str)) := off_at hJ6 nM.1 nM.2.1 nM.2.2
            have hkw : KwAt (offH J6 d l pk) ⟨wdAt ws (4 + i), κn, κ1, κ2, heard⟩ (.ref t) := ⟨t, M, nv, v1, v2, rfl, S6.tup at6, rn6.mono S6.rep, rv1.mono (TupK.same S6.off), rv2.mono (TupK.same S6.off), fM⟩
            have sF2 := sF.trans S6.off
            have pk2 := paired_snoc (paired_mono (fun _ _ z => KwAt.same S6.off z) pk1) hkw
            have fph2 := S6.off _ _ fph
            have rh2 := rh.mono (TupK.same S6.off)
            have S7 := S6.app (.ref t)
            generalize offH J6 d l pk = F2 at fM hkw sF2 pk2 fph2 rh2 S7
            generalize upd J6 pk (.lst (uk ++ [.ref t])) = J7 at S7 ⊢
            clear S6 hJ6 at6 rn6 st ht hJ5 rn5 S5 S4 S3 k4 k5 rv1 rv2 rn hJ3 hkw
            dsimp only
            refine ⟨_, rfl, _, rfl, M, rfl, ⟨_, SqL.of (S7.fr _ _ fM)⟩, fun M2 hM2 => sel_it walk_list (strs_paired heard) (fun _ => true) (fun q => Kd.hold (wdAt ws (4 + i)) q) (RR := fun J κ v => Rep J κ.d v) (fun tk z => z.mono tk) (by omega) (fun J s => SqL.of (s _ _ (S7.fr _ _ fM))) hM2 (fun q v J8 _ hv s8 A B c1 c2 => ?_) fun J8 sel hJ8 ps s8 => ?_⟩
            · subst hv
              refine ⟨rfl, lc_yes ⟨_, rfl, _, rfl, _, _, rfl, rfl, pw, _, _, _, rfl, rfl, SqL.of (s8 _ _ (S7.fr _ _ (sF2 _ _ fw1))), (by rw [hk4]; exact wd_atI wl (by omega)), _, rfl, by show 3 ≤ sizeLine; decide, fun t2 ht2 => c1 rfl _ _ (Same.new ht2) ?_⟩⟩
              exact Rep.new (ds := [.s "hold", .s (wdAt ws (4 + i)), .s q]) ht2 (Reps.cons rfl (Reps.cons rfl (Reps.cons rfl rfl)))
            · rw [List.filter_eq_self.mpr (fun _ _ => rfl)] at ps
              have S8 := S7.same s8
              have lsel : sel.length ≤ 6 := by rw [← paired_len ps, List.length_map]; exact hhl
              have lhk : uh.length ≤ 12 := by
                rw [Reps.len rh, List.length_map]
                have h2 : ∀ l : List KW, KsOk as l → (hksOf l).length ≤ 6 * l.length := by
                  intro l hl
                  induction l with
                  | nil => exact Nat.le_refl _
                  | cons k r ih =>
                    unfold hksOf at ih ⊢
                    rw [List.flatMap_cons, List.length_append, List.length_map, List.length_cons]
                    have := (hl k (by simp)).2.1
                    have := ih fun x hx => hl x (by simp [hx])
                    omega
                have := h2 ks hko
                omega
              refine ⟨ph, M2, uh, sel, rfl, rfl, S8.fr _ _ fph2, hJ8, sz1000 (by omega), fun ph2 hp2 => ?_⟩
              have sn := Same.new (o := .lst (uh ++ sel)) hp2
              have S9 := S8.same sn
              have n9 := S8.nw hp2
              refine ⟨offH (upd J8 ph2 (.lst (uh ++ sel))) d l pk, ks ++ [⟨wdAt ws (4 + i), κn, κ1, κ2, heard⟩], uk ++ [.ref t], ph2, uh ++ sel, _, _, _, _, _, sF2.trans S9.off, S9.reframe, paired_mono (fun _ _ z => KwAt.same S9.off z) pk2, off_at upd_same n9.1 n9.2.1 n9.2.2, ?_, ?_, ?_, rfl⟩
              · rw [hks_app, List.map_append]
                refine Reps.append (rh2.mono (TupK.same S9.off)) ?_
                have := paired_reps (dd := Kd.d) ps
                exact (this.mono (TupK.same sn)).mono S9.rep
              · rw [List.range_succ, List.map_append, List.map_append, hkn]; rfl
              · intro k hk
                rcases List.mem_append.mp hk with hk | hk
                · exact hko k hk
                · rw [List.mem_singleton.mp hk]
                  exact ⟨⟨pn, p1, p2⟩, hhl, hhd, hhm⟩
      · obtain ⟨F, ks, uk, ph, uh, o4, o7, o8, o9, o10, sF, S, pk1, fph, rh, hkn, hko, rfl⟩ := q
        have lk : ks.length = (1 + r3).toNat := by
          have := congrArg List.length hkn
          rw [List.length_map, List.length_map, List.length_range] at this; exact this
        have hkl : 1 ≤ ks.length ∧ ks.length ≤ 2 := by omega
        have hknd : (ks.map (·.nm)).Nodup := by
          rw [hkn]
          exact wd_apart wl wn (fun k => 4 + k) _ (fun i hi => by omega) fun i hi j hj e => by omega
        have hki : ∀ k ∈ ks, isName k.nm = true := fun k hk => by
          have : k.nm ∈ ks.map (·.nm) := List.mem_map.mpr ⟨k, hk, rfl⟩
          rw [hkn] at this
          obtain ⟨i, hi, e⟩ := List.mem_map.mp this
          have hi := List.mem_range.mp hi
          rw [← e]
          exact wi _ (List.mem_of_getElem? (wd_at wl (by omega)))
        have lhk : (hksOf ks).length ≤ 12 := by
          have h2 : ∀ l : List KW, KsOk as l → (hksOf l).length ≤ 6 * l.length := by
            intro l hl
            induction l with
            | nil => exact Nat.le_refl _
            | cons k r ih =>
              unfold hksOf at ih ⊢
              rw [List.flatMap_cons, List.length_append, List.length_map, List.length_cons]
              have := (hl k (by simp)).2.1
              have := ih fun x hx => hl x (by simp [hx])
              omega
          have := h2 ks hko
          omega
        have luh : uh.length ≤ 12 := by rw [Reps.len rh, List.length_map]; exact lhk
        have hgood : ∀ κ ∈ hksOf ks, (∃ k q, κ = .hold k q) ∧ (⟨ws, as, ks, []⟩ : WW).good κ := fun κ hκ => by
          obtain ⟨k, hk, hm⟩ := List.mem_flatMap.mp hκ
          obtain ⟨q, hq, rfl⟩ := List.mem_map.mp hm
          exact ⟨⟨_, _, rfl⟩, k, hk, rfl, hq⟩
        dsimp only
        refine ⟨Nat.zero_le _, fun pf hf => ?_⟩
        refine gN ?_
        have S1 := S.next hf
        have f2 : Same F (cutH J d l) := S.cut
        have fk2 : cutH J d l pk = some (.lst uk) := cut_at S.xs S.ne.1 S.ne.2
        have sF12 := sF.trans f2
        have fw2 := sF12 _ _ fw1
        have fp2 := sF12 _ _ fp1
        have fa2 := sF12 _ _ fa
        have rp2 := rp1.mono (TupK.same sF12)
        have ra2 := ra1.mono (TupK.same sF12)
        have pk2 := paired_mono (fun _ _ z => KwAt.same f2 z) pk1
        have fh2 := f2 _ _ fph
        have rh2 := rh.mono (TupK.same f2)
        have f02 := f01.trans sF12
        generalize cutH J d l = F2 at S1 f2 fk2 sF12 fw2 fp2 fa2 rp2 ra2 pk2 fh2 rh2 f02
        generalize upd J pf (.lst []) = J8 at S1 ⊢
        clear S sF f2 hf pk1 fph rh S7 sF12
        dsimp only
        -- the functions
        refine sFor1 (oC ?_)
        refine ⟨_, rfl, d, l, 3, rfl, S1.deal, by decide, by decide, fun r4 J9 q0 q1 D9 k9 => ⟨_, _, rfl, rfl, 2 + r4, rfl, by omega, by omega, ?_⟩⟩
        have S9 := S1.kp D9 k9
        clear S1 D9 k9
        refine for_range (lo := 0) (n := (2 + r4).toNat) (fun i σ J => ∃ (F : Hp) (fs : List FW) (uf : List V) (o4 o12 o13 : Option V), Same F2 F ∧ LS F d l pf uf J ∧ Paired (FwAt F) fs uf ∧ fs.map (·.nm) = (List.range i).map (fun k => wdAt ws (8 + k)) ∧ FsOk ⟨ws, as, ks, []⟩ fs ∧ σ = [some (.ref d), some (.ref pw), some (.ref pp), some (.ref pa), o4, some (.ref pk), some (.ref ph), o7, o8, o9, o10, some (.ref pf), o12, o13, none, none, none, none]) ⟨F2, [], [], _, _, _, Same.refl _, S9, .nil, rfl, ⟨(fun _ z => nomatch z), (fun _ z => nomatch z)⟩, rfl⟩ (fun i σ J hi q => ?_) fun σ J q => ?_
        · obtain ⟨F, fs, uf, o4', o12, o13, sF, S, pf1, hfn, hfo, rfl⟩ := q
          have hi4 : i < 4 := by omega
          have lf : fs.length = i := by
            have := congrArg List.length hfn
            rw [List.length_map, List.length_map, List.length_range] at this; exact this
          have luf : uf.length = i := by rw [← paired_len pf1, lf]
          have hk8 : (8 : Int) + (0 + (i : Int)) = ((8 + i : Nat) : Int) := by omega
          have lup : up.length = 4 := Reps.len rp2
          have fp3 := sF _ _ fp2
          have fh3 := sF _ _ fh2
          refine ⟨_, rfl, _, rfl, pp, pp, up, up, rfl, rfl, S.fr _ _ fp3, S.fr _ _ fp3, sz1000 (by omega), fun Y1 hy1 => ?_⟩
          have S1 := S.same (Same.new (o := .lst (up ++ up)) hy1)
          have ay1 := upd_same (H := J) (a := Y1) (o := .lst (up ++ up))
          generalize upd J Y1 (.lst (up ++ up)) = J1 at S1 ay1 ⊢
          refine ⟨_, rfl, Y1, ph, _, _, rfl, rfl, ay1, S1.fr _ _ fh3, sz1000 (by rw [List.length_append]; omega), fun Y2 hy2 => ?_⟩
          have S2 := S1.same (Same.new (o := .lst (up ++ up ++ uh)) hy2)
          have ay2 := upd_same (H := J1) (a := Y2) (o := .lst (up ++ up ++ uh))
          generalize upd J1 Y2 (.lst (up ++ up ++ uh)) = J2 at S2 ay2 ⊢
          refine ⟨_, rfl, 1, rfl, ph, uh, rfl, SqL.of (S2.fr _ _ fh3), fun X hX => ?_⟩
          rw [show (1 : Int) = ((1 : Nat) : Int) from rfl, cutV_to]
          have sX := Same.new (o := .lst (uh.take 1)) hX
          have S3 := S2.same sX
          have ay3 := sX _ _ ay2
          have aX := upd_same (H := J2) (a := X) (o := .lst (uh.take 1))
          generalize upd J2 X (.lst (uh.take 1)) = J3 at S3 ay3 aX ⊢
          have hr1 : Paired (fun (κ : Kd) v => Rep F κ.d v) ((hksOf ks).take 1) (uh.take 1) := paired_take 1 (reps_paired (rh2.mono (TupK.same sF)))
          refine ⟨X, rfl, ⟨_, SqL.of aX⟩, fun M hM => sel_it walk_list hr1 (fun _ => true) Kd.rowOf (RR := fun J κ v => Rep J κ.d v) (fun tk z => z.mono tk) (by rw [List.length_take]; omega) (fun J s => SqL.of (s _ _ aX)) hM (fun κ v J4 hκ hv s4 A B c1 c2 => ?_) fun J4 sel hJ4 ps s4 => ?_⟩
          · obtain ⟨⟨kn, q, rfl⟩, _⟩ := hgood κ (List.mem_of_mem_take hκ)
            refine ⟨rfl, lc_yes (mk_use (mk_holds (x := "holds") (i := 17) (by exact rfl) (hv.mono (TupK.same (S3.fr.trans s4)))) (Same.refl J4) fun v2 J5 s5 r5 => c1 rfl v2 J5 s5 r5)⟩
          · rw [List.filter_eq_self.mpr (fun _ _ => rfl)] at ps
            have S4 := S3.same s4
            have ay4 := s4 _ _ ay3
            have lsel : sel.length ≤ 1 := by rw [← paired_len ps, List.length_map, List.length_take]; omega
            have hall : Paired (fun (κ : Kd) v => Rep J4 κ.d v) ([Kd.num, .num, .num, .nums] ++ [Kd.num, .num, .num, .nums] ++ hksOf ks ++ ((hksOf ks).take 1).map Kd.rowOf) (up ++ up ++ uh ++ sel) := by
              have r1 : Paired (fun (κ : Kd) v => Rep J4 κ.d v) [Kd.num, .num, .num, .nums] up := reps_paired (xs := [Kd.num, .num, .num, .nums]) (rp2.mono (TupK.same (sF.trans S4.fr)))
              have r2 : Paired (fun (κ : Kd) v => Rep J4 κ.d v) (hksOf ks) uh := reps_paired (rh2.mono (TupK.same (sF.trans S4.fr)))
              exact paired_app (paired_app (paired_app r1 r1) r2) ps
            have hkg : ∀ κ ∈ [Kd.num, .num, .num, .nums] ++ [Kd.num, .num, .num, .nums] ++ hksOf ks ++ ((hksOf ks).take 1).map Kd.rowOf, (⟨ws, as, ks, []⟩ : WW).good κ := fun κ hκ => by
              have h4 : ∀ κ ∈ [Kd.num, .num, .num, .nums], (⟨ws, as, ks, []⟩ : WW).good κ := fun κ hκ => by
                simp only [List.mem_cons, List.not_mem_nil, or_false] at hκ
                rcases hκ with rfl | rfl | rfl | rfl <;> trivial
              rcases List.mem_append.mp hκ with hκ | hκ
              · rcases List.mem_append.mp hκ with hκ | hκ
                · rcases List.mem_append.mp hκ with hκ | hκ
                  · exact h4 κ hκ
                  · exact h4 κ hκ
                · exact (hgood κ hκ).2
              · obtain ⟨κ', hm, rfl⟩ := List.mem_map.mp hκ
                obtain ⟨⟨kn, q, rfl⟩, hg⟩ := hgood κ' (List.mem_of_mem_take hm)
                exact hg
            have lall : (up ++ up ++ uh ++ sel).length ≤ 21 ∧ 4 ≤ (up ++ up ++ uh ++ sel).length := by
              rw [List.length_append, List.length_append, List.length_append]; omega
            generalize [Kd.num, .num, .num, .nums] ++ [Kd.num, .num, .num, .nums] ++ hksOf ks ++ ((hksOf ks).take 1).map Kd.rowOf = kall at hall hkg
            refine ⟨Y2, M, _, _, rfl, rfl, ay4, hJ4, sz1000 (by rw [List.length_append, List.length_append]; omega), fun Y3 hy3 => ?_⟩
            generalize up ++ up ++ uh ++ sel = uall at hall lall ⊢
            have s5 := Same.new (o := .lst uall) hy3
            have S5 := S4.same s5
            have ay5 := upd_same (H := J4) (a := Y3) (o := .lst uall)
            have hall5 := paired_mono (fun _ _ z => Rep.mono (TupK.same s5) z) hall
            have n5 := S4.nw hy3
            generalize upd J4 Y3 (.lst uall) = J5 at S5 ay5 hall5 ⊢
            clear S1 S2 S3 S4 ay1 ay2 ay3 ay4 aX hall hJ4 ps hX hM hy1 hy2 hy3 s4 sX s5 hr1
            refine gN ?_
            refine ⟨_, rfl, d, l, 5, rfl, S5.deal, by decide, by decide, fun r J6 r0 r1 D6 k6 => ⟨_, rfl, _, _, rfl, rfl, .inr ⟨_, rfl, _, _, rfl, rfl, .inl ⟨by omega, by omega⟩, ?_⟩⟩⟩
            have S6 := S5.kp D6 k6
            have ay6 := k6 _ _ ay5 n5.1 n5.2.1
            have hall6 := paired_mono (fun _ _ z => Rep.mono (TupK.kp S5.deal k6) z) hall5
            obtain ⟨nk, hnk, hnk4, hnk0⟩ : ∃ nk : Nat, (r * (if decide (0 + (i : Int) > 0) = true then (1 : Int) else 0)) = (nk : Int) ∧ nk ≤ 4 ∧ (i = 0 → nk = 0) := by
              by_cases c : i = 0
              · subst c
                exact ⟨0, by simp, by omega, fun _ => rfl⟩
              · rw [decide_eq_true (by omega), if_pos rfl, Int.mul_one]
                exact ⟨r.toNat, by omega, by omega, fun z => absurd z c⟩
            have hnk' : (r * (if decide (0 + (i : Int) > 0) = true then (1 : Int) else 0)).toNat = nk := by rw [hnk]; rfl
            refine ⟨_, rfl, Int.le_trans (by omega) (Int.le_of_eq hnk.symm), Int.lt_of_le_of_lt (Int.le_of_eq hnk) (by omega), fun M2 hM2 => lc_range (lo := 0) (n := (r * (if decide (0 + (i : Int) > 0) = true then (1 : Int) else 0)).toNat) (fun j J' => ∃ (κs : List Kd) (vs : List V), J' M2 = some (.lst vs) ∧ Reps J' (κs.map Kd.d) vs ∧ κs.length = j ∧ (∀ κ ∈ κs, (⟨ws, as, ks, []⟩ : WW).good κ) ∧ DealAt J' d l ∧ Kp d l J6 J') ⟨[], [], upd_same, rfl, rfl, (fun _ z => nomatch z), S6.deal.same (Same.new hM2), Kp.same (Same.new hM2)⟩ (fun j J' hj q => ?_) fun J' q => ?_⟩
            · obtain ⟨κs, vs, hJ', rv, lκ, gκ, D', k'⟩ := q
              rw [hnk'] at hj
              have S7 := S6.kp D' k'
              have nM := S6.nw hM2
              have ay7 := k' _ _ ay6 n5.1 n5.2.1
              refine ⟨rfl, lc_yes ⟨_, rfl, _, rfl, _, rfl, Y3, _, rfl, .inl (SqL.of ay7), d, l, _, rfl, D', by omega, by omega, fun r5 J8 r50 r51 D8 k8 => ?_⟩⟩
              have ay8 := k8 _ _ ay7 n5.1 n5.2.1
              have hJ8 := k8 _ _ hJ' nM.1 nM.2.1
              obtain ⟨v, hv, hin⟩ := atI_in r50 r51
              obtain ⟨κ, hκ, hat⟩ := paired_mem hall6 hin
              have tk8 : TupK J' J8 := TupK.kp D' k8
              have rκ := hat.mono ((TupK.kp S6.deal k').trans tk8)
              have tkM : TupK J8 (upd J8 M2 (.lst (vs ++ [v]))) := tk_lst hJ8
              have lvs : vs.length = j := by rw [Reps.len rv, List.length_map, lκ]
              refine ⟨Y3, _, _, v, rfl, rfl, SqL.of ay8, hv, vs, hJ8, small1000 (by omega), κs ++ [κ], vs ++ [v], upd_same, ?_, by rw [List.length_append, lκ]; rfl, fun x hx => ?_, D8.upd ⟨nM.1, nM.2.1⟩, Kp.mut (Kp.refl _ _ _) (k'.trans k8) hM2⟩
              · rw [List.map_append]
                exact Reps.append ((rv.mono tk8).mono tkM) (Reps.cons (rκ.mono tkM) rfl)
              · rcases List.mem_append.mp hx with hx | hx
                · exact gκ x hx
                · rw [List.mem_singleton.mp hx]; exact hkg κ hκ
            · obtain ⟨κs, vs, hJ', rv, lκ, gκ, D', k'⟩ := q
              rw [hnk'] at lκ
              have S7 := S6.kp D' k'
              have nM := S6.nw hM2
              refine gN ?_
              refine ⟨_, rfl, .inl ⟨rfl, _, SqL.of S7.xs⟩, ?_⟩
              refine ⟨_, rfl, _, rfl, _, _, rfl, rfl, pw, _, _, _, rfl, rfl, SqL.of (S7.fr _ _ (sF _ _ fw2)), (by rw [hk8]; exact wd_atI wl (by omega)), _, rfl, ?_⟩
              refine use_plain S7 fp3 (rp2.mono (TupK.same sF)) (by exact rfl) (by exact rfl) fun v1 κ1 J8 p1 rv1 S8 k8 => ?_
              refine ⟨by show 3 ≤ sizeLine; decide, fun t ht => ?_⟩
              have st := Same.new (o := .tup [V.str (wdAt ws (8 + i)), .ref M2, v1]) ht
              have S9 := S8.same st
              have hM9 := st _ _ (k8 _ _ hJ' nM.1 nM.2.1)
              have at9 := upd_same (H := J8) (a := t) (o := .tup [V.str (wdAt ws (8 + i)), .ref M2, v1])
              have rv9 := (rv.mono (TupK.kp D' k8)).mono (TupK.same st)
              refine ⟨pf, uf, _, rfl, rfl, S9.xs, small1000 (by omega), ?_⟩
              refine ⟨offH _ d l pf, fs ++ [⟨wdAt ws (8 + i), κs, κ1⟩], uf ++ [.ref t], _, _, _, sF.trans S9.off, S9.app _, ?_, ?_, ?_, rfl⟩
              · exact paired_snoc (paired_mono (fun _ _ z => FwAt.same S9.off z) pf1) ⟨t, M2, v1, vs, rfl, S9.tup at9, off_at hM9 nM.1 nM.2.1 nM.2.2, rv9.mono S9.rep, rv1.mono (TupK.same S9.off)⟩
              · rw [List.range_succ, List.map_append, List.map_append, hfn]; rfl
              · refine ⟨fun f hf => ?_, fun f hf => ?_⟩
                · rcases List.mem_append.mp hf with hf | hf
                  · exact hfo.1 f hf
                  · rw [List.mem_singleton.mp hf]
                    exact ⟨by show κs.length ≤ 4; omega, gκ, p1⟩
                · cases fs with
                  | nil =>
                    have e : i = 0 := lf.symm
                    have hf : f = ⟨wdAt ws (8 + i), κs, κ1⟩ := (Option.some.inj hf).symm
                    rw [hf]
                    exact List.length_eq_zero_iff.mp (lκ.trans (hnk0 e))
                  | cons x r => exact hfo.2 f hf
        · obtain ⟨F, fs, uf, o4', o12, o13, sF, S, pf1, hfn, hfo, rfl⟩ := q
          have lf : fs.length = (2 + r4).toNat := by
            have := congrArg List.length hfn
            rw [List.length_map, List.length_map, List.length_range] at this; exact this
          have hfnd : (fs.map (·.nm)).Nodup := by
            rw [hfn]
            exact wd_apart wl wn (fun k => 8 + k) _ (fun i hi => by omega) fun i hi j hj e => by omega
          have hfi : ∀ k ∈ fs, isName k.nm = true := fun k hk => by
            have : k.nm ∈ fs.map (·.nm) := List.mem_map.mpr ⟨k, hk, rfl⟩
            rw [hfn] at this
            obtain ⟨i, hi, e⟩ := List.mem_map.mp this
            have hi := List.mem_range.mp hi
            rw [← e]
            exact wi _ (List.mem_of_getElem? (wd_at wl (by omega)))
          dsimp only
          refine fun w' hw' => ⟨_, rfl, _, rfl, _, rfl, _, rfl, upd_same, wL pw pa pk pf, rfl, (by show 4 ≤ 15; decide), ?_⟩
          rw [w_merge]
          have sw : Same J (upd (upd J w' (.dK [])) w' (.dK (wL pw pa pk pf))) := fun b o e => by
            rw [upd_ne (ne_of_none e hw'), upd_ne (ne_of_none e hw')]; exact e
          have Sf := S.same sw
          have fw4 : Same F (cutH (upd (upd J w' (.dK [])) w' (.dK (wL pw pa pk pf))) d l) := Sf.cut
          have nw' := S.nw hw'
          refine k w' ⟨ws, as, ks, fs⟩ _ ⟨?_, ?_, Sf.deal⟩ (cut_kp ((f02.trans sF).trans Sf.fr))
          · exact ⟨wl, wn, wi, hal, hnd, hai, hap, hkl, hknd, hki, fun k hk => (hko k hk).1, fun k hk => (hko k hk).2, by show 2 ≤ fs.length ∧ fs.length ≤ 4; omega, hfnd, hfi, hfo.1, hfo.2⟩
          · refine ⟨pw, pa, pk, pf, ua, uk, uf, cut_at upd_same nw'.1 nw'.2.1, fw4 _ _ (sF _ _ fw2), fw4 _ _ (sF _ _ fa2), fw4 _ _ (sF _ _ fk2), cut_at Sf.xs Sf.ne.1 Sf.ne.2, ra2.mono (TupK.same (sF.trans fw4)), paired_mono (fun _ _ z => KwAt.same (sF.trans fw4) z) pk2, paired_mono (fun _ _ z => FwAt.same fw4 z) pf1⟩
end
end Ak
namespace Ak
open PySem L2
local macro_rules | `(tactic| walk_at "no attr") => `(tactic| exact rwF_no _ _ _ (by decide +kernel) (by decide +kernel) (by decide +kernel))
set_option maxHeartbeats 4000000
set_option pp.maxSteps 2000
/-! ### a program -/
abbrev st_l_program : Stmt := top 23
theorem sc_l_program : FnScope ["_law_deal_here", "_law_world", "_law_words_here", "_law_functions", "_law_k", "_law_f", "_law_kinds", "_law_kind", "_law_env", "_law_keepers", "_law_keeper", "_law_end", "_law_some", "_law_hears", "_law_ask"] ["_law_deal_here"] (defScope st_l_program) := ⟨rfl, rfl, rfl, by decide +kernel, rfl, by decide +kernel, by decide +kernel⟩
theorem reps_of {H : Hp} : ∀ {ds : List D} {vs : List V}, vs.length = ds.length → (∀ (j : Nat) (d : D) (v : V), ds[j]? = some d → vs[j]? = some v → Rep H d v) → Reps H ds vs
  | [], [], _, _ => rfl
  | [], _ :: _, h, _ => by cases h
  | _ :: _, [], h, _ => by cases h
  | d :: ds, v :: vs, h, k => Reps.cons (k 0 d v rfl rfl) (reps_of (by simpa using h) fun j d' v' e1 e2 => k (j + 1) d' v' (by simpa using e1) (by simpa using e2))
def agOf (a : AW) : AG := ⟨a.nm, a.of.d, a.gives.d⟩
def kgOf (W : WW) (kw : KW) (e : Body) (hs : List (AW × Body)) : KG := ⟨kw.nm, kw.note.d, kw.takes.d, kw.gives.d, W.nm 0, W.nm 1, e.pt, hs.map fun p => hgOf W p.1.nm p.2⟩
def fgOf (W : WW) (fw : FW) (b : Body) : FG := ⟨fw.nm, fw.kinds.mapIdx fun i κ => (W.nm i, κ.d), fw.kind.d, b.pt⟩
def Small (b : Body) : Prop := b.dep ≤ 30 ∧ b.size ≤ 150
def KTy (W : WW) (kw : KW) (k : KG) : Prop := ∃ (e : Body) (hs : List (AW × Body)), k = kgOf W kw e hs ∧ BTy W [kw.takes, kw.note] kw.gives e ∧ Small e ∧ hs.map (·.1) = W.as.filter (fun a => decide (a.nm ∈ kw.heard)) ∧ ∀ p ∈ hs, BTy W [p.1.of, .hold kw.nm p.1.nm, kw.note] kw.gives p.2 ∧ Small p.2
def FTy (W : WW) (fw : FW) (f : FG) : Prop := ∃ b : Body, f = fgOf W fw b ∧ BTy W fw.kinds fw.kind b ∧ Small b
structure PTy (W : WW) (p : PG) : Prop where
  as : p.as = W.as.map agOf
  ks : Paired (KTy W) W.ks p.ks
  fs : Paired (FTy W) W.fs p.fs
theorem fg_d (W : WW) (fw : FW) (b : Body) : (fgOf W fw b).d = .t [.s fw.nm, .t (W.envD fw.kinds), fw.kind.d, b.d] := by
  show D.t [.s fw.nm, .t ((fw.kinds.mapIdx fun i κ => (W.nm i, κ.d)).map fun p => .t [.s p.1, p.2]), fw.kind.d, b.pt.d] = _
  rw [Body.pt_d]
  congr 3
  refine congrArg D.t (List.ext_getElem? fun i => ?_)
  rw [envD_get, List.getElem?_map, List.getElem?_mapIdx, Option.map_map]; rfl
theorem kg_d (W : WW) (kw : KW) (e : Body) (hs : List (AW × Body)) : (kgOf W kw e hs).d = .t [.s kw.nm, kw.note.d, kw.takes.d, kw.gives.d, .t [.s (W.nm 0), .s (W.nm 1), e.d], .t (hs.map fun p => (hgOf W p.1.nm p.2).d)] := by
  show D.t [.s kw.nm, kw.note.d, kw.takes.d, kw.gives.d, .t [.s (W.nm 0), .s (W.nm 1), e.pt.d], .t ((hs.map fun p => hgOf W p.1.nm p.2).map HG.d)] = _
  rw [Body.pt_d, List.map_map]; rfl
theorem neK {K : PySem.W.Frag} {H : Hp} {a b : V} {κ κ' : Kd} {Q : VK} (h1 : Rep H κ.d a) (h2 : Rep H κ'.d b) (o1 : κ.Ok) (o2 : κ'.Ok) (q : Q (.bl (!decide (κ = κ'))) H) : rNeD K a b H Q := by
  obtain ⟨p, rfl, hp⟩ := rep_ss h1
  obtain ⟨p', rfl, hp'⟩ := rep_ss h2
  refine ⟨_, _, .tup (SqT.of hp) (dpA_strs _), .tup (SqT.of hp') (dpA_strs _), shp_strT (kd_cp o1), shp_strT (kd_cp o2), ?_⟩
  rw [eqv_strT, show decide (κ.w = κ'.w) = decide (κ = κ') from decide_eq_decide.mpr ⟨kd_w, fun e => by rw [e]⟩]
  exact q
theorem decS_ne {K : PySem.W.Frag} {i : Nat} {σ : L2.St} {H : Hp} {p : Addr} {xs : List V} {a b : V} {κ κ' : Kd} {n m : Int} (e : σ[i]? = some (some (.ref p))) (h : H p = some (.tup xs)) (a1 : atI xs n = some a) (a2 : atI xs m = some b) (r1 : Rep H κ.d a) (r2 : Rep H κ'.d b) (o1 : κ.Ok) (o2 : κ'.Ok) : DecS (tTest (tOp (rNeD K) (tOp (rIxT K) (tVar i) (tC (.int n))) (tOp (rIxT K) (tVar i) (tC (.int m))))) σ H (κ ≠ κ') := fun Q ka kb => ⟨_, e, p, xs, n, a, rfl, rfl, SqT.of h, a1, _, e, p, xs, m, b, rfl, rfl, SqT.of h, a2, neK r1 r2 o1 o2 ⟨_, rfl, by
  by_cases c : κ = κ'
  · rw [decide_eq_true c]; exact kb H (Same.refl H) fun z => z c
  · rw [decide_eq_false c]; exact ka H (Same.refl H) c⟩⟩
theorem in_strs (x : Str) : ∀ xs : List Str, inV (.str x) (xs.map V.str) = decide (x ∈ xs)
  | [] => by simp [inV]
  | y :: r => by
    have ih := in_strs x r
    have e1 : inV (.str x) ((y :: r).map V.str) = (eqV (.str y) (.str x) || inV (.str x) (r.map V.str)) := rfl
    have e2 : eqV (.str y) (.str x) = decide (y = x) := by
      by_cases h : y = x
      · subst h
        rw [decide_eq_true rfl]
        show (_ == _) = true
        simp
      · rw [decide_eq_false h]
        show (_ == _) = false
        simp [h]
    rw [e1, e2, ih, ← Bool.decide_or]
    exact decide_eq_decide.mpr (by rw [List.mem_cons]; exact ⟨fun z => z.elim (fun e => .inl e.symm) .inr, fun z => z.elim (fun e => .inl e.symm) .inr⟩)
theorem flat_strs : ∀ xs : List Str, (xs.map V.str).all flatV = true := fun xs => by
  rw [List.all_eq_true]
  intro v hv
  obtain ⟨x, _, rfl⟩ := List.mem_map.mp hv
  rfl
theorem nm_atI {W : WW} (ok : W.Ok) (i : Nat) (h : i < 82) : atI (W.words.map V.str) ((14 + i : Nat) : Int) = some (.str (W.nm i)) := atI_nat (by rw [List.getElem?_map, nm_at ok h]; rfl)
theorem LS.bb {F J : Hp} {d l x w : Addr} {W : WW} {us : List V} (S : LS F d l x us J) (ok : W.Ok) (wd : WAt F w W) : BB d l w W J := ⟨ok, wd.same S.cut, S.deal⟩
def spProgram : Sp := fun vs H Q _ => ∃ (d l : Addr), vs = [.ref d] ∧ DealAt H d l ∧ ∀ (v : V) (W : WW) (p : PG) (H' : Hp), W.Ok → PTy W p → Rep H' p.d v → DealAt H' d l → Kp d l H H' → Q v H'
section
variable {P : Program} {w : World} {K : PySem.W.Frag} {mg : Str → Option Value} {base : Heap} {f1 f3 f5 f7 : Addr} {d1 d3 d5 d7 : FuncData}
theorem ok_l_program {f : Addr} {fd : FuncData} (D : Fn K mg "_law_program" st_l_program ["_law_deal_here"] f fd) (T : BltB mg) (D_l_draw : Fn K mg "_law_draw" st_l_draw ["_law_deal_here", "_law_many"] f3 d3) (G_l_draw : FnOk P w K mg base CX0 1 f3 d3 ["_law_deal_here", "_law_many"] spDraw) (D_l_heads : Fn K mg "_law_heads" st_l_heads ["_law_deal_here"] f1 d1) (G_l_heads : FnOk P w K mg base CX0 3 f1 d1 ["_law_deal_here"] spHeads)
    (D_l_hear : Fn K mg "_law_hear" st_l_hear ["_law_deal_here", "_law_world", "_law_keeper", "_law_ask"] f5 d5) (G_l_hear : FnOk P w K mg base CX0 9 f5 d5 ["_law_deal_here", "_law_world", "_law_keeper", "_law_ask"] spHear) (D_l_body : Fn K mg "_law_body" st_l_body ["_law_deal_here", "_law_world", "_law_env", "_law_due", "_law_later", "_law_deep"] f7 d7) (G_l_body : FnOk P w K mg base CX0 (5 + 3) f7 d7 ["_law_deal_here", "_law_world", "_law_env", "_law_due", "_law_later", "_law_deep"] (spBody 3)) : FnOk P w K mg base CX0 10 f fd ["_law_deal_here"] spProgram := by
  refine D.F.ok sc_l_program (fun vs H Q E h => ?_) (fun cdv A outer s H vs Q E hr h => ?_)
  · obtain ⟨d, l, rfl, _⟩ := h
    rfl
  · obtain ⟨d, l, rfl, hD, k⟩ := h
    have hu := hu_of hr
    refine ⟨_, (pss_cons (ps_set (i := 1) sc_l_program.nd rfl (Or.inr rfl) (pe_call G_l_heads (hr.mono (by decide)) rfl D_l_heads.mg D_l_heads.kp D_l_heads.b .nil pass0 (pa_cons (pv 0) pa_nil)))
      (pss_cons (ps_set (i := 2) sc_l_program.nd rfl (Or.inl rfl) (pe_dget hu (pv 1) pe_str (fun _ _ => rfl)))
      (pss_cons (ps_set (i := 3) sc_l_program.nd rfl (Or.inl rfl) (pe_lst pa_nil))
      (pss_cons (ps_for PassesOwn.never rfl (pi_enum (by rfl) T.enumerate (pa_cons (pe_dget hu (pv 1) pe_str (fun _ _ => rfl)) pa_nil)) (pg_tup (by rfl) (pgs_cons (pg_name (i := 4) sc_l_program.nd rfl (Or.inl rfl)) (pgs_cons (pg_tup (by rfl) (pgs_cons (pg_name (i := 5) sc_l_program.nd rfl (Or.inl rfl)) (pgs_cons (pg_name (i := 6) sc_l_program.nd rfl (Or.inl rfl)) (pgs_cons (pg_name (i := 7) sc_l_program.nd rfl (Or.inl rfl)) pgs_nil)))) pgs_nil))) (pss_cons (ps_set (i := 8) sc_l_program.nd rfl (Or.inl rfl) (Ak.pe_lstZip rfl rfl T.list rfl T.zip (pa_cons (pe_slice sl_list (pv 2) (po_some pe_int) po_none) (pa_cons (pv 6) pa_nil))))
      (pss_one (ps_expr (pe_bm PySem.F.plainAttrs_list PySem.F.slot_list_append PySem.F.type_list_append mt_append (pv 3) (pa_cons (pe_tup (pa_cons (pv 5) (pa_cons (pe_callTy call_tuple_of (by rfl) T.tuple (by decide +kernel) (pa_cons (pv 8) pa_nil)) (pa_cons (pv 7) (pa_cons (pe_call G_l_body (hr.mono (by decide)) rfl D_l_body.mg D_l_body.kp D_l_body.b .nil pass0 (pa_cons (pv 0) (pa_cons (pv 1) (pa_cons (pv 8) (pa_cons (pv 7) (pa_cons (pe_op op_add (pv 4) pe_int) (pa_cons pe_int pa_nil))))))) pa_nil))))) pa_nil))))))
      (pss_cons (ps_set (i := 9) sc_l_program.nd rfl (Or.inl rfl) (pe_lst pa_nil))
      (pss_cons (ps_for PassesOwn.never rfl (pi_list (pe_dget hu (pv 1) pe_str (fun _ _ => rfl))) (pg_name (i := 10) sc_l_program.nd rfl (Or.inr rfl)) (pss_cons (ps_set (i := 8) sc_l_program.nd rfl (Or.inl rfl) (pe_lst (pa_cons (pe_tup (pa_cons (pe_ix ix_list (pv 2) pe_int (fun _ _ => rfl)) (pa_cons (pe_ix ix_tup (pv 10) pe_int (fun _ _ => rfl)) pa_nil))) (pa_cons (pe_tup (pa_cons (pe_ix ix_list (pv 2) pe_int (fun _ _ => rfl)) (pa_cons (pe_ix ix_tup (pv 10) pe_int (fun _ _ => rfl)) pa_nil))) pa_nil))))
      (pss_cons (ps_set (i := 11) sc_l_program.nd rfl (Or.inl rfl) (pe_tup (pa_cons pe_str (pa_cons (pe_ix ix_list (pv 2) pe_int (fun _ _ => rfl)) pa_nil))))
      (C8.pss_cut (ps_if (PW.pt (pw_or (pt_cmpR (op_neD hr.units) (pe_ix ix_tup (pv 10) pe_int (fun _ _ => rfl)) (pe_ix ix_tup (pv 10) pe_int (fun _ _ => rfl)) (nomark _)) (pw_or1 (pt_cmpR op_eq (pe_call G_l_draw (hr.mono (by decide)) rfl D_l_draw.mg D_l_draw.kp D_l_draw.b .nil pass0 (pa_cons (pv 0) (pa_cons pe_int pa_nil))) pe_int (nomark _))))) (pss_one (ps_set (i := 11) sc_l_program.nd rfl (Or.inl rfl) (pe_call G_l_body (hr.mono (by decide)) rfl D_l_body.mg D_l_body.kp D_l_body.b .nil pass0 (pa_cons (pv 0) (pa_cons (pv 1) (pa_cons (pv 8) (pa_cons (pe_ix ix_tup (pv 10) pe_int (fun _ _ => rfl)) (pa_cons pe_int (pa_cons pe_int pa_nil))))))))) pss_nil)
      (pss_cons (ps_setLc (i := 12) (own := [("_law_ask", 14)]) (g := gName 14) (tt := tTest (tOp (rIn K false) (tOp (rIxT K) (tVar 14) (tC (V.int 0))) (tOp (rIxT K) (tVar 10) (tC (V.int 4))))) (te := (tVar 14)) rfl sc_l_program.nd rfl rfl (sw_true rfl rfl rfl (by decide +kernel)) (pi_list (pe_dget hu (pv 1) pe_str (fun _ _ => rfl))) (blkOk_by (own := [("_law_ask", 14)]) (N := ["_law_deal_here", "_law_world", "_law_words_here", "_law_functions", "_law_k", "_law_f", "_law_kinds", "_law_kind", "_law_env", "_law_keepers", "_law_keeper", "_law_end", "_law_some", "_law_hears", "_law_ask"]) (sc := defScope st_l_program) (by decide +kernel)) (fun _ _ _ _ _ => (pg_name (i := 14) sc_l_program.nd rfl (Or.inl rfl))) (fun _ _ _ _ _ => (pts_one (pt_cmpR op_in_seq (pe_ix ix_tup (pv 14) pe_int (fun _ _ => rfl)) (pe_ix ix_tup (pv 10) pe_int (fun _ _ => rfl)) (by rfl)))) (fun _ _ _ _ _ => (pv 14)))
      (pss_cons (ps_setLc (i := 13) (own := [("_law_ask", 14)]) (g := gName 14) (tt := tYes) (te := (tCall spHear [] E0 (tCons (tVar 0) (tCons (tVar 1) (tCons (tVar 10) (tCons (tVar 14) tNil)))))) rfl sc_l_program.nd rfl rfl (sw_true rfl rfl rfl (by decide +kernel)) (pi_list (pv 12)) (blkOk_by (own := [("_law_ask", 14)]) (N := ["_law_deal_here", "_law_world", "_law_words_here", "_law_functions", "_law_k", "_law_f", "_law_kinds", "_law_kind", "_law_env", "_law_keepers", "_law_keeper", "_law_end", "_law_some", "_law_hears", "_law_ask"]) (sc := defScope st_l_program) (by decide +kernel)) (fun _ _ _ _ _ => (pg_name (i := 14) sc_l_program.nd rfl (Or.inl rfl))) (fun _ _ _ _ _ => pts_nil) (fun _ _ _ _ _ => (pe_call G_l_hear (hr.mono (by decide)) rfl D_l_hear.mg D_l_hear.kp D_l_hear.b .nil pass0 (pa_cons (pv 0) (pa_cons (pv 1) (pa_cons (pv 10) (pa_cons (pv 14) pa_nil)))))))
      (pss_one (ps_expr (pe_bm PySem.F.plainAttrs_list PySem.F.slot_list_append PySem.F.type_list_append mt_append (pv 9) (pa_cons (pe_op op_catA (pe_slice sl_tupA (pv 10) po_none (po_some pe_int)) (pe_tup (pa_cons (pe_tup (pa_cons (pe_ix ix_list (pv 2) pe_int (fun _ _ => rfl)) (pa_cons (pe_ix ix_list (pv 2) pe_int (fun _ _ => rfl)) (pa_cons (pv 11) pa_nil)))) (pa_cons (pe_callTy call_tuple_of (by rfl) T.tuple (by decide +kernel) (pa_cons (pv 13) pa_nil)) pa_nil)))) pa_nil))))))))))
      (pss_one (ps_ret (pe_tup (pa_cons (pe_callTy call_tuple_of (by rfl) T.tuple (by decide +kernel) (pa_cons (pe_dget hu (pv 1) pe_str (fun _ _ => rfl)) pa_nil)) (pa_cons (pe_callTy call_tuple_of (by rfl) T.tuple (by decide +kernel) (pa_cons (pv 9) pa_nil)) (pa_cons (pe_callTy call_tuple_of (by rfl) T.tuple (by decide +kernel) (pa_cons (pv 3) pa_nil)) pa_nil)))))))))))), ?_⟩
    refine ⟨_, rfl, d, l, rfl, hD, fun w' W H1 B1 k1 => ?_⟩
    have ok := B1.ok
    obtain ⟨pw, pa, pk, pf, ua, uk, uf, g1, g2, g3, g4, g5, ra, rks, rfs⟩ := B1.wd
    have sc := cut_same H1 d l
    refine gN ?_
    refine ⟨_, rfl, w', .ref pw, rfl, w_words (sc _ _ g1), ?_⟩
    refine gN ?_
    refine ⟨Nat.zero_le _, fun pn hn => ?_⟩
    refine gN ?_
    have S0 : LS (cutH H1 d l) d l pn [] (upd H1 pn (.lst [])) := ⟨B1.deal.same (Same.new hn), sc.trans (Same.new hn), ⟨(cut_no H1 d l).1, (cut_no H1 d l).2, cut_none hn⟩, upd_same, B1.deal.new hn⟩
    have kp0 : Same (cutH H d l) (cutH H1 d l) := cut_mono k1
    have wd0 := B1.wd
    have luf : uf.length = W.fs.length := (paired_len rfs).symm
    generalize cutH H1 d l = F0 at *
    generalize upd H1 pn (.lst []) = J0 at S0 ⊢
    clear B1 k1 hn sc
    dsimp only
    -- the functions
    refine ⟨_, rfl, w', .ref pf, rfl, w_functions (S0.fr _ _ g1), pf, _, rfl, SqL.of (S0.fr _ _ g5), for_it (walk_enum (xs := uf)) (fun i σ J => ∃ (F : Hp) (fgs : List FG) (ug : List V) (o4 o5 o6 o7 o8 : Option V), Same F0 F ∧ LS F d l pn ug J ∧ Reps F (fgs.map FG.d) ug ∧ Paired (FTy W) (W.fs.take i) fgs ∧ σ = [some (.ref d), some (.ref w'), some (.ref pw), some (.ref pn), o4, o5, o6, o7, o8, none, none, none, none, none, none]) ⟨F0, [], [], _, _, _, _, _, Same.refl _, S0, rfl, .nil, rfl⟩ (fun i σ J _ q => ?_) (fun i x σ J J1 hi q y => ?_) fun σ J q => ?_⟩
    · obtain ⟨F, fgs, ug, o4, o5, o6, o7, o8, sF, S, _⟩ := q
      exact SqL.of (S.fr _ _ (sF _ _ g5))
    · obtain ⟨F, fgs, ug, o4, o5, o6, o7, o8, sF, S, rg, pg, rfl⟩ := q
      obtain ⟨T0, x1, x2, rfl, hT, rfl, ex1, ex2⟩ := y
      obtain rfl : V.int (i : Int) = x1 := Option.some.inj ex1
      obtain ⟨fw, efw, hat⟩ := paired_get rfs ex2
      have hfw := List.mem_of_getElem? efw
      obtain ⟨p, X, vk, us, rfl, hp, hX, rkk, rkd⟩ := hat
      have fk := ok.fk fw hfw
      have S1 := S.same (Same.new (o := .tup [V.int (i : Int), .ref p]) hT)
      have F01 := fun b o e => S1.fr b o (sF b o e)
      have lfg : fgs.length ≤ 4 := by rw [← paired_len pg, List.length_take]; have := ok.fl; omega
      have lug : ug.length ≤ 4 := by rw [Reps.len rg, List.length_map]; exact lfg
      refine ⟨T0, _, rfl, SqT.of upd_same, rfl, _, _, rfl, _, _, rfl, p, _, rfl, SqT.of (F01 _ _ hp), rfl, _, _, rfl, _, _, rfl, _, _, rfl, rfl, rfl, ?_⟩
      generalize upd J T0 (.tup [V.int (i : Int), .ref p]) = J2 at S1 F01 ⊢
      have lus : us.length = fw.kinds.length := by rw [Reps.len rkk, List.length_map]
      refine ⟨_, rfl, 14, rfl, pw, _, rfl, SqL.of (F01 _ _ g2), fun Y hY => ?_⟩
      rw [show (14 : Int) = ((14 : Nat) : Int) from rfl, cutV_from]
      have sY := Same.new (o := .lst ((W.words.map V.str).drop 14)) hY
      have S2 := S1.same sY
      have aY := upd_same (H := J2) (a := Y) (o := .lst ((W.words.map V.str).drop 14))
      generalize upd J2 Y (.lst ((W.words.map V.str).drop 14)) = J3 at S2 sY aY ⊢
      have F03 : Same F0 J3 := fun b o e => sY _ _ (F01 _ _ e)
      have lw : ((W.words.map V.str).drop 14).length = 82 := by rw [List.length_drop, List.length_map, ok.wl]
      have hmin : min ((W.words.map V.str).drop 14).length us.length = fw.kinds.length := by rw [lw, lus]; omega
      refine ⟨_, rfl, Y, X, _, us, rfl, SqL.of aY, SqL.of (F03 _ _ hX), by omega, fun q ts J4 nq s4 hq4 lts hts => ?_⟩
      rw [hmin] at lts
      have S4 := S2.same s4
      have renv : Reps J4 (W.envD fw.kinds) (ts.map V.ref) := reps_of (by rw [List.length_map, lts, envD_len]) fun j dd v e1 e2 => by
        rw [envD_get] at e1
        obtain ⟨κ, eκ, rfl⟩ := Option.map_eq_some_iff.mp e1
        rw [List.getElem?_map] at e2
        obtain ⟨Tj, eT, rfl⟩ := Option.map_eq_some_iff.mp e2
        have hj : j < fw.kinds.length := (List.getElem?_eq_some_iff.mp eκ).1
        obtain ⟨u, eu, ru⟩ := Reps.get rkk (j := j) (d := κ.d) (by rw [List.getElem?_map, eκ]; rfl)
        have e3 := hts j Tj (.str (W.nm j)) u eT (by rw [List.getElem?_drop, List.getElem?_map, nm_at ok (by omega)]; rfl) eu
        exact ⟨Tj, _, rfl, e3, Reps.cons rfl (Reps.cons (ru.mono (TupK.same (fun b o e => s4 _ _ (F03 _ _ e)))) rfl)⟩
      have F04 : Same F0 J4 := fun b o e => s4 _ _ (F03 _ _ e)
      have nq4 := S2.nw nq
      refine gN ?_
      dsimp only
      refine ⟨_, rfl, .inl ⟨rfl, _, SqL.of S4.xs⟩, _, rfl, _, rfl, q, _, rfl, .inl ⟨SqL.of hq4, fun t1 ht1 => ?_⟩⟩
      have s5 := Same.new (o := .tup (ts.map V.ref)) ht1
      have rpar := Rep.new (ds := W.envD fw.kinds) (vs := ts.map V.ref) ht1 renv
      have S5 := S4.same s5
      have hq5 := s5 _ _ hq4
      have renv5 := renv.mono (TupK.same s5)
      have F05 : Same F0 (upd J4 t1 (.tup (ts.map V.ref))) := fun b o e => s5 _ _ (F04 _ _ e)
      generalize upd J4 t1 (.tup (ts.map V.ref)) = J5 at s5 rpar S5 hq5 renv5 F05 ⊢
      have BB5 := S5.bb ok (wd0.same sF)
      refine ⟨_, rfl, _, rfl, _, rfl, _, rfl, _, rfl, _, rfl, _, _, rfl, rfl, d, l, w', W, q, fw.kinds, ts.map V.ref, fw.kind, vk, i + 1, 0, rfl, BB5, hq5, renv5, fk.2.1, fk.2.2, rkd.mono (TupK.same F05), by decide, by decide, by show fw.kinds.length ≤ 10; omega, fun v b J6 D6 k6 rv tb hd hz => ?_⟩
      have S6 := S5.kp D6 k6
      have tk6 := TupK.kp S5.deal k6
      refine ⟨by show 4 ≤ sizeLine; decide, fun t ht => ?_⟩
      have s7 := Same.new (o := .tup [V.str fw.nm, .ref t1, vk, v]) ht
      have S7 := S6.same s7
      have rt := Rep.new (ds := [.s fw.nm, .t (W.envD fw.kinds), fw.kind.d, b.d]) (vs := [V.str fw.nm, .ref t1, vk, v]) ht (Reps.cons rfl (Reps.cons (rpar.mono tk6) (Reps.cons ((rkd.mono (TupK.same F05)).mono tk6) (Reps.cons rv rfl))))
      rw [← fg_d] at rt
      refine ⟨pn, ug, _, rfl, rfl, S7.xs, small1000 (by omega), offH _ d l pn, fgs ++ [fgOf W fw b], ug ++ [.ref t], _, _, _, _, _, sF.trans S7.off, S7.app _, ?_, ?_, rfl⟩
      · rw [List.map_append]
        exact Reps.append (rg.mono (TupK.same S7.off)) (Reps.cons (rt.mono S7.rep) rfl)
      · rw [List.take_add_one, efw]
        refine paired_snoc pg ⟨b, rfl, tb, ?_, ?_⟩
        · have := lack_le ok fw.kinds
          have h14 : cD 0 = 14 := rfl
          rw [h14] at hd; omega
        · have h118 : cS 0 = 118 := rfl
          rw [h118] at hz; omega
    · obtain ⟨F, fgs, ug, o4, o5, o6, o7, o8, sF, S, rg, pg, rfl⟩ := q
      rw [luf, List.take_length] at pg
      have lfg : fgs.length ≤ 4 := by rw [← paired_len pg]; have := ok.fl; omega
      dsimp only
      refine ⟨Nat.zero_le _, fun pks hks => ?_⟩
      refine gN ?_
      have S1 := S.next hks
      have f1 := S.cut
      have fn1 : cutH J d l pn = some (.lst ug) := cut_at S.xs S.ne.1 S.ne.2
      have rg1 := rg.mono (TupK.same f1)
      have sF1 := sF.trans f1
      generalize cutH J d l = F1 at S1 f1 fn1 rg1 sF1
      generalize upd J pks (.lst []) = J1 at S1 ⊢
      clear S hks f1 sF rg
      have kp1 := kp0.trans sF1
      have luk : uk.length = W.ks.length := (paired_len rks).symm
      have h2 := sF1 _ _ g2
      dsimp only
      -- the keepers
      refine ⟨_, rfl, w', .ref pk, rfl, w_keepers (S1.fr _ _ (sF1 _ _ g1)), pk, rfl, ⟨_, SqL.of (S1.fr _ _ (sF1 _ _ g4))⟩, for_it (walk_list (xs := uk)) (fun i σ J => ∃ (F : Hp) (kgs : List KG) (ug2 : List V) (o8 o10 o11 o12 o13 : Option V), Same F1 F ∧ LS F d l pks ug2 J ∧ Reps F (kgs.map KG.d) ug2 ∧ Paired (KTy W) (W.ks.take i) kgs ∧ σ = [some (.ref d), some (.ref w'), some (.ref pw), some (.ref pn), o4, o5, o6, o7, o8, some (.ref pks), o10, o11, o12, o13, none]) ⟨F1, [], [], _, _, _, _, _, Same.refl _, S1, rfl, .nil, rfl⟩ (fun i σ J _ q => ?_) (fun i x σ J J2 hi q y => ?_) fun σ J q => ?_⟩
      · obtain ⟨F, kgs, ug2, o8, o10, o11, o12, o13, sF, S, _⟩ := q
        exact SqL.of (S.fr _ _ (sF _ _ (sF1 _ _ g4)))
      · obtain ⟨F, kgs, ug2, o8, o10, o11, o12, o13, sF, S, rk, pgk, rfl⟩ := q
        obtain ⟨rfl, ex⟩ := y
        obtain ⟨kw, ekw, hat⟩ := paired_get rks ex
        have hkw := List.mem_of_getElem? ekw
        have hat' := hat
        obtain ⟨p, hh, va, vt, vg, rfl, hp, rva, rvt, rvg, hhh⟩ := hat'
        have lkg : kgs.length ≤ 2 := by rw [← paired_len pgk, List.length_take]; have := ok.kl; omega
        have lug2 : ug2.length ≤ 2 := by rw [Reps.len rk, List.length_map]; exact lkg
        have sF0 := sF1.trans sF
        have kpK := ok.kp kw hkw
        have F0J : Same F0 J2 := fun b o e => S.fr _ _ (sF0 _ _ e)
        have tkJ := TupK.same F0J
        dsimp only
        refine sA (lst_use (ds := W.envD [kw.takes, kw.note]) (by exact mk_cons (mk_tup (mk_cons (mk_ix rfl (F0J _ _ g2) (nm_atI ok 0 (by decide)) rfl) (mk_cons (mk_ixT rfl (F0J _ _ hp) (at_nat _ 2 rfl) (rvt.mono tkJ)) mk_nil)) le1000) (mk_cons (mk_tup (mk_cons (mk_ix rfl (F0J _ _ g2) (nm_atI ok 1 (by decide)) rfl) (mk_cons (mk_ixT rfl (F0J _ _ hp) (at_nat _ 1 rfl) (rva.mono tkJ)) mk_nil)) le1000) mk_nil)) (Same.refl J2) le1000 fun EE ue J3 nE hE rE s3 => ?_)
        have S3 := S.same s3
        have nE3 := S.nw nE
        refine gN ?_
        have F03 : Same F0 J3 := fun b o e => s3 _ _ (F0J _ _ e)
        refine sA (mk_use (d := (Body.give (.nm (W.nm 0))).d) (by exact mk_tup (mk_cons mk_str (mk_cons (mk_ix rfl (F03 _ _ g2) (nm_atI ok 0 (by decide)) rfl) mk_nil)) le1000) (Same.refl J3) fun ev J4 s4 rev => ?_)
        have S4 := S3.same s4
        have hE4 := s4 _ _ hE
        have rE4 := rE.mono (TupK.same s4)
        have F04 : Same F0 J4 := fun b o e => s4 _ _ (F03 _ _ e)
        refine gN ?_
        refine ⟨fun σ J => ∃ (e : Body) (ev : V), σ = [some (.ref d), some (.ref w'), some (.ref pw), some (.ref pn), o4, o5, o6, o7, some (.ref EE), some (.ref pks), some (.ref p), some ev, o12, o13, none] ∧ LS F d l pks ug2 J ∧ Rep J e.d ev ∧ BTy W [kw.takes, kw.note] kw.gives e ∧ Small e, ?_, fun σ J q => ?_⟩
        · refine decK_if (d := d) (l := l) (decK_or (by exact decK_of (decS_ne (κ := kw.takes) (κ' := kw.gives) rfl (F04 _ _ hp) (at_nat _ 2 rfl) (at_nat _ 3 rfl) (rvt.mono (TupK.same F04)) (rvg.mono (TupK.same F04)) (good_ok ok (plain_good kpK.2.1)) (good_ok ok (plain_good kpK.2.2)))) fun H2 D2 k2 _ => by exact decK_draw (n := 3) (c := 0) rfl (by decide) (by decide)) S4.deal (fun J5 D5 k5 p5 => ?_) fun J5 D5 k5 p5 => ?_
          · have S5 := S4.kp D5 k5
            have F05 : Same F0 J5 := fun b o e => S5.fr _ _ (sF0 _ _ e)
            have tk5 := TupK.kp S4.deal k5
            have gd : ∀ κ ∈ [kw.takes, kw.note], W.good κ := fun κ hκ => by
              simp only [List.mem_cons, List.not_mem_nil, or_false] at hκ
              rcases hκ with rfl | rfl
              · exact plain_good kpK.2.1
              · exact ok.note hkw
            have c7 : cD 1 = 7 := rfl
            have c49 : cS 1 = 49 := rfl
            have := lack_le ok [kw.takes, kw.note]
            exact ⟨_, rfl, _, rfl, _, rfl, _, rfl, p, _, 3, vg, rfl, rfl, SqT.of (F05 _ _ hp), at_nat _ 3 rfl, d, l, w', W, EE, [kw.takes, kw.note], ue, kw.gives, vg, 1, 1, rfl, S5.bb ok (wd0.same sF0), k5 _ _ hE4 nE3.1 nE3.2.1, rE4.mono tk5, gd, kpK.2.2, rvg.mono (TupK.same F05), by decide, by decide, by show 2 ≤ 48; decide, fun v b J6 D6 k6 rv tb hd hz => ⟨b, v, rfl, S5.kp D6 k6, rv, tb, by omega, by omega⟩⟩
          · have S5 := S4.kp D5 k5
            have he : kw.takes = kw.gives := Classical.byContradiction p5.1
            exact ⟨.give (.nm (W.nm 0)), ev, rfl, S5, rev.mono (TupK.kp S4.deal k5), .inl ⟨0, by rw [← he]; rfl, rfl⟩, by show 1 ≤ 30; decide, by show 1 ≤ 150; decide⟩
        · clear S3 S4 rE rE4 hE4 F04 F03 rev nE nE3 hE s3 s4
          obtain ⟨e, ev, rfl, S5, rev, te, se⟩ := q
          have F05 : Same F0 J := fun b o e => S5.fr _ _ (sF0 _ _ e)
          refine ⟨_, rfl, w', .ref pa, rfl, w_asks (F05 _ _ g1), pa, rfl, ⟨_, SqL.of (F05 _ _ g3)⟩, fun M hM => sel_it walk_list (reps_paired ra) (fun aw => decide (aw.nm ∈ kw.heard)) id (RR := fun _ aw v => Rep F0 aw.d v) (fun _ z => z) (by have := ok.al; omega) (fun J s => SqL.of (s _ _ (F05 _ _ g3))) hM (fun aw v J6 haw hv s6 A B c1 c2 => ?_) fun J6 sel hJ6 ps s6 => ?_⟩
          · obtain ⟨p', va', vb', rfl, hp', _⟩ := AW.at hv
            have F06 : Same F0 J6 := fun b o e => s6 _ _ (F05 _ _ e)
            refine ⟨rfl, ?_⟩
            refine ⟨_, rfl, p', _, 0, _, rfl, rfl, SqT.of (F06 _ _ hp'), at0 _ _, _, rfl, p, _, 4, _, rfl, rfl, SqT.of (F06 _ _ hp), at_nat _ 4 rfl, hh, _, rfl, .inl (SqL.of (F06 _ _ hhh)), rfl, flat_strs _, _, rfl, ?_⟩
            show (if inV (.str aw.nm) (kw.heard.map V.str) = true then _ else _)
            rw [in_strs]
            refine ite2 (fun c => ⟨_, rfl, c1 c _ J6 (Same.refl J6) hv⟩) fun c => c2 (by simpa using c) J6 (Same.refl J6)
          · rw [List.map_id] at ps
            have S6 := S5.same s6
            have nM := S5.nw hM
            have rev6 := rev.mono (TupK.same s6)
            refine gN ?_
            refine ⟨_, rfl, M, rfl, ⟨_, SqL.of hJ6⟩, fun M2 hM2 => L2.lc_it (walk_list (xs := sel)) (fun j J' => ∃ (hs : List (AW × Body)) (vs : List V), J' M2 = some (.lst vs) ∧ Reps J' (hs.map fun p => (hgOf W p.1.nm p.2).d) vs ∧ hs.map (·.1) = (W.as.filter fun aw => decide (aw.nm ∈ kw.heard)).take j ∧ (∀ p ∈ hs, BTy W [p.1.of, .hold kw.nm p.1.nm, kw.note] kw.gives p.2 ∧ Small p.2) ∧ DealAt J' d l ∧ Kp d l J6 J') ⟨[], [], upd_same, rfl, rfl, (fun _ z => nomatch z), S6.deal.same (Same.new hM2), Kp.same (Same.new hM2)⟩ (fun j J' _ z => ?_) (fun j x J' J7 hj z yy => ?_) fun J' z => ?_⟩
            · obtain ⟨hs, vs, _, _, _, _, D', k'⟩ := z
              exact SqL.of (k' _ _ hJ6 nM.1 nM.2.1)
            · obtain ⟨rfl, exj⟩ := yy
              obtain ⟨hs, vs, hJ', rv, hhs, hty, D', k'⟩ := z
              obtain ⟨aw, eaw, hat7⟩ := paired_get ps exj
              obtain ⟨haw, hqd⟩ := List.mem_filter.mp (List.mem_of_getElem? eaw)
              have hqd := of_decide_eq_true hqd
              have S7 := S6.kp D' k'
              have nM2 := S6.nw hM2
              have lhs : hs.length ≤ 6 := by
                have := congrArg List.length hhs
                rw [List.length_map, List.length_take] at this
                have h6 : (W.as.filter fun aw => decide (aw.nm ∈ kw.heard)).length ≤ W.as.length := List.length_filter_le _ _
                have := ok.al
                omega
              have lvs : vs.length ≤ 6 := by rw [Reps.len rv, List.length_map]; exact lhs
              have sF7 := sF0.trans S7.cut
              refine ⟨rfl, lc_yes ⟨_, rfl, _, rfl, _, rfl, _, rfl, d, l, w', W, kw, aw, .ref p, x, rfl, S7.bb ok (wd0.same sF0), hkw, haw, hqd, KwAt.same sF7 hat, hat7.mono (TupK.same sF7), fun v b J8 D8 k8 rvb tb hd hz => ?_⟩⟩
              have hJ8 := k8 _ _ hJ' nM2.1 nM2.2.1
              have tk8 := TupK.kp S7.deal k8
              have tkM : TupK J8 (upd J8 M2 (.lst (vs ++ [v]))) := tk_lst hJ8
              refine ⟨vs, hJ8, small1000 (by omega), hs ++ [(aw, b)], vs ++ [v], upd_same, ?_, ?_, fun pp hpp => ?_, D8.upd ⟨nM2.1, nM2.2.1⟩, Kp.mut (Kp.refl _ _ _) (k'.trans k8) hM2⟩
              · rw [List.map_append]
                exact Reps.append ((rv.mono tk8).mono tkM) (Reps.cons (rvb.mono tkM) rfl)
              · rw [List.take_add_one, eaw, List.map_append, hhs]; rfl
              · rcases List.mem_append.mp hpp with hpp | hpp
                · exact hty pp hpp
                · rw [List.mem_singleton.mp hpp]; exact ⟨tb, hd, hz⟩
            · obtain ⟨hs, vs, hJ', rv, hhs, hty, D', k'⟩ := z
              rw [← paired_len ps, List.take_length] at hhs
              have S7 := S6.kp D' k'
              have nM2 := S6.nw hM2
              have F07 : Same F0 J' := fun b o e => S7.fr _ _ (sF0 _ _ e)
              have rev7 := rev6.mono (TupK.kp S6.deal k')
              refine gN ?_
              refine ⟨_, rfl, .inl ⟨rfl, _, SqL.of S7.xs⟩, _, rfl, 4, rfl, ?_⟩
              refine slA_use (F07 _ _ hp) fun p4 J8 s8 h4 => ?_
              have h4 : J8 p4 = some (.tup [.str kw.nm, va, vt, vg]) := h4
              have F08 : Same F0 J8 := fun b o e => s8 _ _ (F07 _ _ e)
              refine ⟨_, rfl, pw, _, 14, _, rfl, rfl, SqL.of (F08 _ _ g2), nm_atI ok 0 (by decide), _, rfl, pw, _, 15, _, rfl, rfl, SqL.of (F08 _ _ g2), nm_atI ok 1 (by decide), _, rfl, by show 3 ≤ sizeLine; decide, fun tt1 htt1 => ?_⟩
              have s9 := Same.new (o := .tup [V.str (W.nm 0), V.str (W.nm 1), ev]) htt1
              have r9 := Rep.new (ds := [.s (W.nm 0), .s (W.nm 1), e.d]) (vs := [V.str (W.nm 0), V.str (W.nm 1), ev]) htt1 (Reps.cons rfl (Reps.cons rfl (Reps.cons (rev7.mono (TupK.same s8)) rfl)))
              have hM29 := s9 _ _ (s8 _ _ hJ')
              refine ⟨_, rfl, M2, _, rfl, .inl ⟨SqL.of hM29, fun tt2 htt2 => ⟨by show 2 ≤ sizeLine; decide, fun tt3 htt3 => ?_⟩⟩⟩
              have s10 := Same.new (o := .tup vs) htt2
              have s89 := s8.trans s9
              have r10 := Rep.new (ds := hs.map fun p => (hgOf W p.1.nm p.2).d) (vs := vs) htt2 (rv.mono (TupK.same s89))
              have s11 := Same.new (o := .tup [.ref tt1, .ref tt2]) htt3
              have s1011 := s10.trans s11
              have h4' := s1011 _ _ (s9 _ _ h4)
              have lug3 := lug2
              refine ⟨p4, tt3, _, _, rfl, rfl, SqT.of h4', SqT.of upd_same, by show 6 ≤ sizeLine; decide, (fun z => nomatch z), (fun _ z => nomatch z), fun _ _ p5 hp5 => ?_⟩
              have s12 := Same.new (o := .tup [.str kw.nm, va, vt, vg, .ref tt1, .ref tt2]) hp5
              have tkA := TupK.same (F08.trans (s9.trans s1011))
              have rkg := Rep.new (ds := [.s kw.nm, kw.note.d, kw.takes.d, kw.gives.d, .t [.s (W.nm 0), .s (W.nm 1), e.d], .t (hs.map fun p => (hgOf W p.1.nm p.2).d)]) (vs := [.str kw.nm, va, vt, vg, .ref tt1, .ref tt2]) hp5 (Reps.cons rfl (Reps.cons (rva.mono tkA) (Reps.cons (rvt.mono tkA) (Reps.cons (rvg.mono tkA) (Reps.cons (r9.mono (TupK.same s1011)) (Reps.cons (r10.mono (TupK.same s11)) rfl))))))
              rw [← kg_d] at rkg
              have S12 := S7.same (s89.trans (s1011.trans s12))
              refine ⟨pks, ug2, _, rfl, rfl, S12.xs, small1000 (by omega), offH _ d l pks, kgs ++ [kgOf W kw e hs], ug2 ++ [.ref p5], _, _, _, _, _, sF.trans S12.off, S12.app _, ?_, ?_, rfl⟩
              · rw [List.map_append]
                exact Reps.append (rk.mono (TupK.same S12.off)) (Reps.cons (rkg.mono S12.rep) rfl)
              · rw [List.take_add_one, ekw]
                exact paired_snoc pgk ⟨e, hs, rfl, te, se, hhs, hty⟩
      · obtain ⟨F, kgs, ug2, o8, o10, o11, o12, o13, sF, S, rk, pgk, rfl⟩ := q
        rw [luk, List.take_length] at pgk
        have sF0 := sF1.trans sF
        have F0J : Same F0 J := fun b o e => S.fr _ _ (sF0 _ _ e)
        dsimp only
        refine ⟨_, rfl, w', .ref pa, rfl, w_asks (F0J _ _ g1), pa, _, rfl, .inl ⟨SqL.of (F0J _ _ g3), fun t1 ht1 => ?_⟩⟩
        have s1 := Same.new (o := .tup ua) ht1
        refine ⟨_, rfl, pks, _, rfl, .inl ⟨SqL.of (s1 _ _ S.xs), fun t2 ht2 => ?_⟩⟩
        have s2 := Same.new (o := .tup ug2) ht2
        refine ⟨_, rfl, pn, _, rfl, .inl ⟨SqL.of (s2 _ _ (s1 _ _ (S.fr _ _ (sF _ _ fn1)))), fun t3 ht3 => ⟨by show 3 ≤ sizeLine; decide, fun t ht => ?_⟩⟩⟩
        have s3 := Same.new (o := .tup ug) ht3
        have s4 := Same.new (o := .tup [.ref t1, .ref t2, .ref t3]) ht
        have r1 := Rep.new (ds := W.as.map AW.d) (vs := ua) ht1 (ra.mono (TupK.same F0J))
        have r2 := Rep.new (ds := kgs.map KG.d) (vs := ug2) ht2 (rk.mono (TupK.same (S.fr.trans s1)))
        have r3 := Rep.new (ds := fgs.map FG.d) (vs := ug) ht3 (rg1.mono (TupK.same (sF.trans (S.fr.trans (s1.trans s2)))))
        have S4 := S.same (s1.trans (s2.trans (s3.trans s4)))
        have rp := Rep.new (ds := [.t (W.as.map AW.d), .t (kgs.map KG.d), .t (fgs.map FG.d)]) (vs := [.ref t1, .ref t2, .ref t3]) ht (Reps.cons (r1.mono (TupK.same (s2.trans s3))) (Reps.cons (r2.mono (TupK.same s3)) (Reps.cons r3 rfl)))
        have epd : PG.d ⟨W.as.map agOf, kgs, fgs⟩ = .t [.t (W.as.map AW.d), .t (kgs.map KG.d), .t (fgs.map FG.d)] := by
          show Ak.D.t [.t ((W.as.map agOf).map AG.d), .t (kgs.map KG.d), .t (fgs.map FG.d)] = _
          rw [List.map_map]; rfl
        rw [← epd] at rp
        exact k _ W ⟨W.as.map agOf, kgs, fgs⟩ _ ok ⟨rfl, pgk, pg⟩ rp S4.deal (cut_kp ((kp0.trans sF0).trans S4.fr))
end
end Ak
namespace Ak
open PySem L2
local macro_rules | `(tactic| walk_at "no attr") => `(tactic| exact rwF_no _ _ _ (by decide +kernel) (by decide +kernel) (by decide +kernel))
set_option maxHeartbeats 2000000
/-! ### data compared: laid, as deep as may be -/
mutual
def Dpy : D → PyData
  | .i n => .int n
  | .s x => .str x
  | .t ds => .tuple (Dpys ds)
def Dpys : List D → List PyData
  | [] => []
  | d :: r => Dpy d :: Dpys r
end
mutual
theorem rep_dp {K : PySem.W.Frag} {H : Hp} : ∀ {d : D} {v : V}, Rep H d v → Dp K H v (Dpy d)
  | .i n, v, h => by
    rw [show v = _ from h, Dpy]; exact .int n
  | .s x, v, h => by
    rw [show v = _ from h, Dpy]; exact .str x
  | .t ds, v, h => by
    obtain ⟨p, vs, rfl, hp, r⟩ := h
    rw [Dpy]
    exact .tup (SqT.of hp) (reps_dp r)
theorem reps_dp {K : PySem.W.Frag} {H : Hp} : ∀ {ds : List D} {vs : List V}, Reps H ds vs → DpAll K H vs (Dpys ds)
  | [], vs, h => by
    rw [show vs = [] from h, Dpys]; exact .nil
  | d :: r, _, h => by
    obtain ⟨v, t, rfl, h1, h2⟩ := h
    rw [Dpys]
    exact .cons (rep_dp h1) (reps_dp h2)
end
mutual
theorem eqv_self : ∀ d : D, PyData.eqv (Dpy d) (Dpy d) = true
  | .i n => by rw [Dpy]; simp [PyData.eqv]
  | .s x => by rw [Dpy]; simp [PyData.eqv]
  | .t ds => by rw [Dpy]; simp only [PyData.eqv]; exact eqvs_self ds
theorem eqvs_self : ∀ ds : List D, PyData.eqvAll (Dpys ds) (Dpys ds) = true
  | [] => by rw [Dpys]; simp [PyData.eqvAll]
  | d :: r => by rw [Dpys, PyData.eqvAll, eqv_self d, eqvs_self r]; rfl
end
def FineN (n : Nat) (d : D) : Prop := PyData.canLay0 (Dpy d) = true ∧ PyData.depth (Dpy d) ≤ n
theorem fine_s {n : Nat} {x : Str} (h : CpOk x) : FineN n (.s x) := by
  refine ⟨by rw [Dpy]; exact cp_ok h, ?_⟩
  rw [Dpy]; simp [PyData.depth]
theorem fine_i {n : Nat} (k : Int) : FineN n (.i k) := by
  refine ⟨by rw [Dpy]; simp [PyData.canLay0], ?_⟩
  rw [Dpy]; simp [PyData.depth]
theorem fine_all {n : Nat} : ∀ {ds : List D}, (∀ d ∈ ds, FineN n d) → PyData.canLayAll0 (Dpys ds) = true ∧ PyData.depthAll (Dpys ds) ≤ n
  | [], _ => by rw [Dpys]; exact ⟨by simp [PyData.canLayAll0], by simp [PyData.depthAll]⟩
  | d :: r, h => by
    obtain ⟨a, b⟩ := h d (by simp)
    obtain ⟨c, e⟩ := fine_all (ds := r) (n := n) fun x hx => h x (List.mem_cons_of_mem _ hx)
    rw [Dpys]
    refine ⟨by rw [PyData.canLayAll0, a, c]; rfl, ?_⟩
    rw [PyData.depthAll]
    exact Nat.max_le.mpr ⟨b, e⟩
theorem fine_t {n : Nat} {ds : List D} (h : ∀ d ∈ ds, FineN n d) : FineN (n + 1) (.t ds) := by
  obtain ⟨a, b⟩ := fine_all h
  refine ⟨by rw [Dpy, PyData.canLay0]; exact a, ?_⟩
  rw [Dpy, PyData.depth]; omega
theorem FineN.le {n m : Nat} {d : D} (h : FineN n d) (l : n ≤ m) : FineN m d := ⟨h.1, Nat.le_trans h.2 l⟩
theorem neL {K : PySem.W.Frag} {H : Hp} {a b : Addr} {us vs : List V} {ds : List D} {Q : VK} (ha : H a = some (.lst us)) (hb : H b = some (.lst vs)) (ra : Reps H ds us) (rb : Reps H ds vs) (f : ∀ d ∈ ds, FineN 60 d) (q : Q (.bl false) H) : rNeD K (.ref a) (.ref b) H Q := by
  obtain ⟨f1, f2⟩ := fine_all f
  have sh : SeqAt.shaped (.list (Dpys ds)) = true := by
    unfold SeqAt.shaped
    rw [Bool.and_eq_true]
    refine ⟨by rw [PyData.canLay0]; exact f1, decide_eq_true ?_⟩
    rw [PyData.depth]; omega
  refine ⟨_, _, .lst (SqL.of ha) (reps_dp ra), .lst (SqL.of hb) (reps_dp rb), sh, sh, ?_⟩
  have : PyData.eqv (.list (Dpys ds)) (.list (Dpys ds)) = true := by simp only [PyData.eqv]; exact eqvs_self ds
  rw [this]; exact q
theorem neT {K : PySem.W.Frag} {H : Hp} {a b : V} {d : D} {Q : VK} (ra : Rep H d a) (rb : Rep H d b) (f : FineN 60 d) (q : Q (.bl false) H) : rNeD K a b H Q := by
  have sh : SeqAt.shaped (Dpy d) = true := by
    unfold SeqAt.shaped
    rw [Bool.and_eq_true]
    exact ⟨f.1, decide_eq_true (by have := f.2; omega)⟩
  refine ⟨_, _, rep_dp ra, rep_dp rb, sh, sh, ?_⟩
  rw [eqv_self]; exact q
/-! ### typed bodies are so -/
theorem cp_fix : ∀ x ∈ ((["give", "tell", "if", "case", "let", "sum", "empty", "put", "last", "call", "ask", "keep", "go", "end", "hear", "def", "hold"] : List Str) ++ signs), CpOk x := by
  show ∀ x ∈ ((["give", "tell", "if", "case", "let", "sum", "empty", "put", "last", "call", "ask", "keep", "go", "end", "hear", "def", "hold"] : List Str) ++ signs), ∀ c ∈ x.cps.toList, c < 1114112
  decide +kernel
theorem fx_s {n : Nat} {x : Str} (h : x ∈ ((["give", "tell", "if", "case", "let", "sum", "empty", "put", "last", "call", "ask", "keep", "go", "end", "hear", "def", "hold"] : List Str) ++ signs)) : FineN n (.s x) := fine_s (cp_fix x h)
theorem nm_fine {W : WW} (ok : W.Ok) (n i : Nat) : FineN n (.s (W.nm i)) := by
  refine fine_s ?_
  unfold WW.nm
  cases h : W.words[14 + i]? with
  | none => exact fun c hc => by simp [Str.empty] at hc
  | some x => exact cp_name (ok.wi x (List.mem_of_getElem? h))
theorem na_fine {x : Str} {n : Nat} (h : isName x = true) : FineN n (.s x) := fine_s (cp_name h)
theorem kd_fine {W : WW} (ok : W.Ok) {κ : Kd} (h : W.good κ) : FineN 1 κ.d := fine_t (n := 0) fun d hd => by
  obtain ⟨x, hx, rfl⟩ := List.mem_map.mp hd
  exact fine_s (kd_cp (good_ok ok h) x hx)
theorem at_fine {W : WW} (ok : W.Ok) {g : List Kd} {κ : Kd} {a : Atom} (n : Nat) (h : AtTy W g κ a) : FineN n a.d := by
  rcases h with ⟨i, _, rfl⟩ | ⟨_, k, rfl, _⟩
  · exact nm_fine ok n i
  · exact fine_i k
theorem args_fine {W : WW} (ok : W.Ok) {g : List Kd} : ∀ {κs : List Kd} {as : List Atom}, Paired (AtTy W g) κs as → ∀ d ∈ as.map Atom.d, FineN 0 d
  | _, _, .nil, d, hd => nomatch hd
  | _, _, .cons h t, d, hd => by
    rcases List.mem_cons.mp hd with rfl | hd
    · exact at_fine ok 0 h
    · exact args_fine ok t d hd
theorem made_fine {W : WW} (ok : W.Ok) {g : List Kd} {κ : Kd} {m : Made} (i : Nat) (hk : W.good κ) (h : MTy W g κ m) : ∀ d ∈ m.hd (W.nm i), FineN 1 d := by
  intro d hd
  have fn := nm_fine ok 1 i
  cases m with
  | same a =>
    simp only [Made.hd, List.mem_cons, List.not_mem_nil, or_false] at hd
    rcases hd with rfl | rfl | rfl
    · exact fx_s (by decide +kernel)
    · exact fn
    · exact at_fine ok 1 h
  | sum s a b =>
    simp only [Made.hd, List.mem_cons, List.not_mem_nil, or_false] at hd
    rcases hd with rfl | rfl | rfl | rfl | rfl
    · exact fx_s (by decide +kernel)
    · exact fn
    · exact fx_s (List.mem_append_right _ h.2.1)
    · exact at_fine ok 1 h.2.2.1
    · exact at_fine ok 1 h.2.2.2
  | empty k =>
    simp only [Made.hd, List.mem_cons, List.not_mem_nil, or_false] at hd
    rcases hd with rfl | rfl | rfl
    · exact fx_s (by decide +kernel)
    · exact fn
    · exact kd_fine ok h.2.2
  | put a r =>
    simp only [Made.hd, List.mem_cons, List.not_mem_nil, or_false] at hd
    rcases hd with rfl | rfl | rfl | rfl
    · exact fx_s (by decide +kernel)
    · exact fn
    · exact at_fine ok 1 h.2.1
    · exact at_fine ok 1 h.2.2
  | last r a =>
    simp only [Made.hd, List.mem_cons, List.not_mem_nil, or_false] at hd
    rcases hd with rfl | rfl | rfl | rfl
    · exact fx_s (by decide +kernel)
    · exact fn
    · exact at_fine ok 1 h.2.1
    · exact at_fine ok 1 h.2.2
  | call f args =>
    obtain ⟨fw, hf, rfl, _, hp⟩ := h
    simp only [Made.hd, List.mem_cons, List.not_mem_nil, or_false] at hd
    rcases hd with rfl | rfl | rfl | rfl
    · exact fx_s (by decide +kernel)
    · exact fn
    · exact na_fine (ok.fi fw hf)
    · exact fine_t (args_fine ok hp)
  | ask q a =>
    obtain ⟨aw, ha, rfl, _, hp⟩ := h
    simp only [Made.hd, List.mem_cons, List.not_mem_nil, or_false] at hd
    rcases hd with rfl | rfl | rfl | rfl
    · exact fx_s (by decide +kernel)
    · exact fn
    · exact na_fine (ok.ai aw ha)
    · exact at_fine ok 1 hp
  | keep k a f args =>
    obtain ⟨kw, hkw, fw, hf, rfl, rfl, _, _, ha, hp⟩ := h
    simp only [Made.hd, List.mem_cons, List.not_mem_nil, or_false] at hd
    rcases hd with rfl | rfl | rfl | rfl | rfl | rfl
    · exact fx_s (by decide +kernel)
    · exact fn
    · exact na_fine (ok.ki kw hkw)
    · exact at_fine ok 1 ha
    · exact na_fine (ok.fi fw hf)
    · exact fine_t (args_fine ok hp)
  | go hh a n =>
    obtain ⟨kw, hkw, aw, haw, _, _, h1, h2, h3⟩ := h
    simp only [Made.hd, List.mem_cons, List.not_mem_nil, or_false] at hd
    rcases hd with rfl | rfl | rfl | rfl | rfl
    · exact fx_s (by decide +kernel)
    · exact fn
    · exact at_fine ok 1 h1
    · exact at_fine ok 1 h2
    · exact at_fine ok 1 h3
theorem body_fine {W : WW} (ok : W.Ok) {due : Kd} : ∀ {b : Body} {g : List Kd}, BTy W g due b → FineN (b.dep + 1) b.d
  | .give a, g, h => fine_t (n := 1) fun d hd => by
    simp only [List.mem_cons, List.not_mem_nil, or_false] at hd
    rcases hd with rfl | rfl
    · exact fx_s (by decide +kernel)
    · exact at_fine ok _ h
  | .tell a b, g, h => fine_t fun d hd => by
    simp only [List.mem_cons, List.not_mem_nil, or_false] at hd
    rcases hd with rfl | rfl | rfl
    · exact fx_s (by decide +kernel)
    · exact at_fine ok _ h.1
    · exact body_fine ok h.2
  | .ite a b c, g, h => fine_t fun d hd => by
    simp only [List.mem_cons, List.not_mem_nil, or_false] at hd
    rcases hd with rfl | rfl | rfl | rfl
    · exact fx_s (by decide +kernel)
    · exact at_fine ok _ h.1
    · exact (body_fine ok h.2.1).le (by show _ ≤ max _ _ + 1; omega)
    · exact (body_fine ok h.2.2).le (by show _ ≤ max _ _ + 1; omega)
  | .case r b x y c, g, ⟨κ, _, _, ha, hb, hx, hy, hc⟩ => fine_t fun d hd => by
    simp only [List.mem_cons, List.not_mem_nil, or_false] at hd
    rcases hd with rfl | rfl | rfl | rfl | rfl | rfl
    · exact fx_s (by decide +kernel)
    · exact at_fine ok _ ha
    · exact (body_fine ok hb).le (by show _ ≤ max _ _ + 1; omega)
    · rw [hx]; exact nm_fine ok _ _
    · rw [hy]; exact nm_fine ok _ _
    · exact (body_fine ok hc).le (by show _ ≤ max _ _ + 1; omega)
  | .bind x m b, g, ⟨κ, hk, hm, hx, hb⟩ => fine_t fun d hd => by
    rcases List.mem_append.mp hd with hd | hd
    · rw [hx] at hd
      exact (made_fine ok _ hk hm d hd).le (by show 1 ≤ b.dep + 1; omega)
    · rw [List.mem_singleton.mp hd]
      exact body_fine ok hb
/-- all the pieces of a typed body -/
theorem subs {W : WW} {due : Kd} : ∀ {b : Body} {g : List Kd}, BTy W g due b → ∀ u ∈ b.pt.all, ∃ (c : Body) (g' : List Kd), u = c.pt ∧ BTy W g' due c ∧ c.dep ≤ b.dep
  | .give a, g, h, u, hu => by
    rw [List.mem_singleton.mp (show u ∈ [PT.give [a.d]] from hu)]
    exact ⟨.give a, g, rfl, h, Nat.le_refl _⟩
  | .tell a b, g, h, u, hu => by
    rcases List.mem_cons.mp (show u ∈ PT.one "tell" [a.d] b.pt :: b.pt.all from hu) with rfl | hu
    · exact ⟨.tell a b, g, rfl, h, Nat.le_refl _⟩
    · obtain ⟨c, g', e, t, l⟩ := subs h.2 u hu
      exact ⟨c, g', e, t, Nat.le_succ_of_le l⟩
  | .ite a b c, g, h, u, hu => by
    rcases List.mem_cons.mp (show u ∈ PT.ifs a.d b.pt c.pt :: (b.pt.all ++ c.pt.all) from hu) with rfl | hu
    · exact ⟨.ite a b c, g, rfl, h, Nat.le_refl _⟩
    · rcases List.mem_append.mp hu with hu | hu
      · obtain ⟨c', g', e, t, l⟩ := subs h.2.1 u hu
        exact ⟨c', g', e, t, by show _ ≤ max _ _ + 1; omega⟩
      · obtain ⟨c', g', e, t, l⟩ := subs h.2.2 u hu
        exact ⟨c', g', e, t, by show _ ≤ max _ _ + 1; omega⟩
  | .case r b x y c, g, h, u, hu => by
    rcases List.mem_cons.mp (show u ∈ PT.cas r.d b.pt (.s x) (.s y) c.pt :: (b.pt.all ++ c.pt.all) from hu) with rfl | hu
    · exact ⟨.case r b x y c, g, rfl, h, Nat.le_refl _⟩
    · obtain ⟨κ, _, _, _, hb, _, _, hc⟩ := h
      rcases List.mem_append.mp hu with hu | hu
      · obtain ⟨c', g', e, t, l⟩ := subs hb u hu
        exact ⟨c', g', e, t, by show _ ≤ max _ _ + 1; omega⟩
      · obtain ⟨c', g', e, t, l⟩ := subs hc u hu
        exact ⟨c', g', e, t, by show _ ≤ max _ _ + 1; omega⟩
  | .bind x m b, g, h, u, hu => by
    rcases List.mem_cons.mp (show u ∈ PT.one m.tag (m.rest x) b.pt :: b.pt.all from hu) with rfl | hu
    · exact ⟨.bind x m b, g, rfl, h, Nat.le_refl _⟩
    · obtain ⟨κ, _, _, _, hb⟩ := h
      obtain ⟨c, g', e, t, l⟩ := subs hb u hu
      exact ⟨c, g', e, t, Nat.le_succ_of_le l⟩
/-! ### what the law asks of a program -/
structure FPT (t : PT) : Prop where
  ok : t.Ok
  dep : t.dep ≤ 50
  size : t.all.length ≤ 10000
  fine : ∀ u ∈ t.all, FineN 60 u.d
theorem fpt_of {W : WW} (ok : W.Ok) {due : Kd} {g : List Kd} {b : Body} (h : BTy W g due b) (s : Small b) : FPT b.pt := by
  refine ⟨Body.pt_ok b, by rw [Body.pt_dep]; have := s.1; omega, by rw [Body.pt_size]; have := s.2; omega, fun u hu => ?_⟩
  obtain ⟨c, g', rfl, t, l⟩ := subs h u hu
  rw [Body.pt_d]
  exact (body_fine ok t).le (by have := s.1; omega)
structure PFine (p : PG) : Prop where
  ok : p.Ok
  ksn : (p.ks.map (·.nm)).Nodup
  fsn : (p.fs.map (·.nm)).Nodup
  hn : ∀ k ∈ p.ks, (k.hears.map (·.q)).Nodup
  isq : ∀ k ∈ p.ks, ∀ r ∈ k.hears, (p.aOf r.q).isSome = true
  fa : ∀ a ∈ p.as, FineN 58 a.of
  fk : ∀ k ∈ p.ks, CpOk k.nm ∧ FineN 58 k.takes ∧ FineN 58 k.note ∧ CpOk k.x ∧ CpOk k.n ∧ FPT k.last
  fh : ∀ k ∈ p.ks, ∀ r ∈ k.hears, CpOk r.q ∧ CpOk r.x ∧ CpOk r.h ∧ CpOk r.n ∧ FPT r.body
  ff : ∀ f ∈ p.fs, CpOk f.nm ∧ f.params.length ≤ 100 ∧ (∀ q ∈ f.params, CpOk q.1 ∧ FineN 58 q.2) ∧ FPT f.body
theorem find_nodup {α β : Type} [DecidableEq β] {f : α → β} : ∀ {l : List α}, (l.map f).Nodup → ∀ {x : α}, x ∈ l → l.find? (fun z => decide (f z = f x)) = some x := by
  intro l h x hx
  cases e : l.find? (fun z => decide (f z = f x)) with
  | none => exact absurd (decide_eq_true (rfl : f x = f x)) (by simpa using List.find?_eq_none.mp e x hx)
  | some y =>
    have h1 := List.mem_of_find?_eq_some e
    have h2 : f y = f x := of_decide_eq_true (List.find?_some (p := fun z => decide (f z = f x)) e)
    rw [nodup_key h h1 hx h2]
theorem PFine.kOf {p : PG} (h : PFine p) {k : KG} (hk : k ∈ p.ks) : p.kOf k.nm = some k := find_nodup h.ksn hk
theorem PFine.fOf {p : PG} (h : PFine p) {f : FG} (hf : f ∈ p.fs) : p.fOf f.nm = some f := find_nodup h.fsn hf
theorem PFine.hOf {p : PG} (h : PFine p) {k : KG} (hk : k ∈ p.ks) {r : HG} (hr : r ∈ k.hears) : k.hOf r.q = some r := find_nodup (h.hn k hk) hr
structure RtE (p : PG) (e : LP) : Prop where
  body : p.bodyOf e.a = some e.b
  beg : p.begun e.a = some e.bs
  fp : FineN 60 e.a.d
  fbs : ∀ b ∈ e.bs.map nameD, FineN 60 b
  lbs : e.bs.length ≤ 100
  fb : FPT e.b
theorem fine_nm {x : Str} {d : D} (h1 : CpOk x) (h2 : FineN 58 d) : FineN 60 (nameD (x, d)) := (fine_t (n := 58) fun e he => by
  simp only [List.mem_cons, List.not_mem_nil, or_false] at he
  rcases he with rfl | rfl
  · exact fine_s h1
  · exact h2).le (by omega)
theorem fine_hold {a b : Str} (h1 : CpOk a) (h2 : CpOk b) : FineN 58 (.t [.s "hold", .s a, .s b]) := (fine_t (n := 0) fun e he => by
  simp only [List.mem_cons, List.not_mem_nil, or_false] at he
  rcases he with rfl | rfl | rfl
  · exact fx_s (by decide +kernel)
  · exact fine_s h1
  · exact fine_s h2).le (by omega)
theorem PFine.lps {p : PG} (h : PFine p) : ∀ e ∈ p.lps, RtE p e := by
  intro e he
  rcases List.mem_append.mp he with he | he
  · obtain ⟨k, hk, he⟩ := List.mem_flatMap.mp he
    obtain ⟨c1, c2, c3, c4, c5, c6⟩ := h.fk k hk
    rcases List.mem_cons.mp he with rfl | he
    · refine ⟨?_, ?_, ?_, ?_, ?_, c6⟩
      · show (p.kOf k.nm).map _ = _
        rw [h.kOf hk]; rfl
      · show (p.kOf k.nm).map _ = _
        rw [h.kOf hk]; rfl
      · exact (fine_t (n := 0) fun d hd => by
          simp only [List.mem_cons, List.not_mem_nil, or_false] at hd
          rcases hd with rfl | rfl
          · exact fx_s (by decide +kernel)
          · exact fine_s c1).le (by omega)
      · intro b hb
        simp only [List.map_cons, List.map_nil, List.mem_cons, List.not_mem_nil, or_false] at hb
        rcases hb with rfl | rfl
        · exact fine_nm c4 c2
        · exact fine_nm c5 c3
      · show 2 ≤ 100; decide
    · obtain ⟨r, hr, rfl⟩ := List.mem_map.mp he
      obtain ⟨b1, b2, b3, b4, b5⟩ := h.fh k hk r hr
      obtain ⟨ag, ea⟩ := Option.isSome_iff_exists.mp (h.isq k hk r hr)
      have fof : FineN 58 ag.of := h.fa ag (List.mem_of_find?_eq_some ea)
      have eD : ((p.aOf r.q).map (·.of)).getD (.i 0) = ag.of := by rw [ea]; rfl
      refine ⟨?_, ?_, ?_, ?_, ?_, b5⟩
      · show (p.kOf k.nm).bind _ = _
        rw [h.kOf hk]
        show (k.hOf r.q).map _ = _
        rw [h.hOf hk hr]; rfl
      · show (p.kOf k.nm).bind _ = _
        rw [h.kOf hk]
        show (k.hOf r.q).bind _ = _
        rw [h.hOf hk hr]
        show (p.aOf r.q).map _ = some [(r.x, ((p.aOf r.q).map (·.of)).getD (.i 0)), _, _]
        rw [ea]; rfl
      · exact (fine_t (n := 0) fun d hd => by
          simp only [List.mem_cons, List.not_mem_nil, or_false] at hd
          rcases hd with rfl | rfl | rfl
          · exact fx_s (by decide +kernel)
          · exact fine_s c1
          · exact fine_s b1).le (by omega)
      · intro b hb
        simp only [List.map_cons, List.map_nil, List.mem_cons, List.not_mem_nil, or_false] at hb
        rcases hb with rfl | rfl | rfl
        · rw [eD]; exact fine_nm b2 fof
        · exact fine_nm b3 (fine_hold c1 b1)
        · exact fine_nm b4 c3
      · show 3 ≤ 100; decide
  · obtain ⟨f, hf, rfl⟩ := List.mem_map.mp he
    obtain ⟨c1, c2, c3, c4⟩ := h.ff f hf
    refine ⟨?_, ?_, ?_, ?_, c2, c4⟩
    · show (p.fOf f.nm).map _ = _
      rw [h.fOf hf]; rfl
    · show (p.fOf f.nm).map _ = _
      rw [h.fOf hf]; rfl
    · exact (fine_t (n := 0) fun d hd => by
        simp only [List.mem_cons, List.not_mem_nil, or_false] at hd
        rcases hd with rfl | rfl
        · exact fx_s (by decide +kernel)
        · exact fine_s c1).le (by omega)
    · intro b hb
      obtain ⟨q, hq, rfl⟩ := List.mem_map.mp hb
      exact fine_nm (c3 q hq).1 (c3 q hq).2
theorem parts_lps (p : PG) : p.parts = p.lps.map (·.a) := by
  unfold PG.parts PG.lps
  rw [List.map_append, List.map_map, List.map_flatMap]
  congr 1
  refine congrArg (fun f => p.ks.flatMap f) (funext fun k => ?_)
  unfold KG.parts KG.lps
  rw [List.map_cons, List.map_map]; rfl
theorem lps_len {p : PG} (h : PFine p) : p.lps.length ≤ 20000 := by
  have h1 : ∀ l : List KG, (∀ k ∈ l, k.hears.length ≤ 100) → (l.flatMap (KG.lps p)).length ≤ 101 * l.length := by
    intro l hl
    induction l with
    | nil => exact Nat.le_refl _
    | cons k r ih =>
      rw [List.flatMap_cons, List.length_append, List.length_cons]
      have e : (KG.lps p k).length = k.hears.length + 1 := by unfold KG.lps; rw [List.length_cons, List.length_map]
      have := hl k (by simp)
      have := ih fun x hx => hl x (by simp [hx])
      omega
  have h2 := h1 p.ks h.ok.hs
  have h3 := h.ok.ks
  have h4 := h.ok.fs
  unfold PG.lps
  rw [List.length_append, List.length_map]
  omega
end Ak
namespace Ak
open PySem L2
local macro_rules | `(tactic| walk_at "no attr") => `(tactic| exact rwF_no _ _ _ (by decide +kernel) (by decide +kernel) (by decide +kernel))
set_option maxHeartbeats 4000000
set_option pp.maxSteps 2000
/-! ### the law's own looking -/
abbrev st_l_right : Stmt := top 26
theorem sc_l_right : FnScope ["_law_program_here", "_law_due", "_law_told", "_law_part", "_law_begun", "_law_body_here", "_law_names", "_law_some"] ["_law_program_here", "_law_due"] (defScope st_l_right) := ⟨rfl, rfl, rfl, by decide +kernel, rfl, by decide +kernel, by decide +kernel⟩
theorem decS_isl {K : PySem.W.Frag} {i : Nat} {σ : L2.St} {H : Hp} {p : Addr} {xs : List V} (e : σ[i]? = some (some (.ref p))) (h : H p = some (.lst xs)) : DecS (tNot (tTest (tCB (rIsi K) (tCons (tVar i) (tCons (tC (.ty "list")) tNil))))) σ H False := fun Q a b => ⟨_, e, _, _, _, _, true, rfl, .ty _, .base (.lst h), kit_ty (by decide +kernel), _, rfl, b H (Same.refl H) fun z => z⟩
/-- what is taken of some rows by a test that leaves all as it is -/
theorem sel_itB {α β : Type} {us : List V} {xs : List α} {Jt : It} {G : Hp → Prop} (wk : Walk Jt us.length G (YAt us)) {R : α → V → Prop} (pr : Paired R xs us) (q : α → Bool) (y : α → β) {RR : Hp → β → V → Prop} (hm : ∀ {J J' b v}, TupK J J' → RR J b v → RR J' b v) (hl : xs.length ≤ 20000)
    {g : TG} {tt : TT} {te : TE} {vs : List Nat} {σ : L2.St} {H : Hp} {D : Addr} {Qd : Hp → Prop} (hG : ∀ J, Same H J → G J) (hD : H D = none)
    (step : ∀ (x : α) (v : V) (J : Hp), x ∈ xs → R x v → Same H J → ∀ (A : V → Hp → Prop) (B : Hp → Prop), (q x = true → ∀ u J', Same J J' → RR J' (y x) u → A u J') → (q x = false → ∀ J', Same J J' → B J') → g v (wipe σ vs) J fun σ2 H2 => wipe σ2 vs = wipe σ vs ∧ tt σ2 H2 fun b H3 => if b = true then te σ2 H3 A else B H3)
    (fin : ∀ (J : Hp) (sel : List V), J D = some (.lst sel) → Paired (RR J) ((xs.filter q).map y) sel → Same H J → Qd J) :
    ∃ W : Nat → Nat → Hp → Prop, (∃ m, W 0 m (upd H D (HO.lst []))) ∧ ∀ (i m : Nat) (H : Hp), W i m H → Jt.stop i H ∧ Qd H ∨ Jt.go i H ∧ ∃ Nx : Hp → Prop, (∀ (H' : Hp), Nx H' → ∃ m', m' < m ∧ W (i + 1) m' H') ∧ ∀ (x : V) (H' : Hp), Jt.yld i H x H' → g x (wipe σ vs) H' fun σ2 H2 => wipe σ2 vs = wipe σ vs ∧ tt σ2 H2 fun b H3 => if b = true then te σ2 H3 fun y H4 => ∃ acc, H4 D = some (HO.lst acc) ∧ acc.length < sizeLine ∧ Nx (upd H4 D (HO.lst (acc ++ [y]))) else Nx H3 := by
  have lx := paired_len pr
  refine L2.lc_it wk (fun i J => Same H J ∧ ∃ sel, J D = some (.lst sel) ∧ Paired (RR J) (((xs.take i).filter q).map y) sel) ⟨Same.new hD, [], upd_same, .nil⟩ (fun i J _ z => hG J z.1) (fun i v J J1 hi z yy => ?_) fun J z => ?_
  · obtain ⟨rfl, ex⟩ := yy
    obtain ⟨sJ, sel, hJ, ps⟩ := z
    obtain ⟨x, ex2, hR⟩ := paired_get pr ex
    have hx := List.mem_of_getElem? ex2
    have ls : sel.length ≤ 20000 := by
      rw [← paired_len ps, List.length_map]
      exact Nat.le_trans (List.length_filter_le _ _) (by rw [List.length_take]; omega)
    have e3 : ((xs.take (i + 1)).filter q).map y = ((xs.take i).filter q).map y ++ if q x = true then [y x] else [] := by
      rw [List.take_add_one, ex2, List.filter_append, List.map_append]
      by_cases h : q x = true
      · rw [if_pos h]; simp [h]
      · rw [if_neg h]; simp [h]
    refine step x v J1 hx hR sJ _ _ (fun c u J2 s2 r2 => ?_) fun c J2 s2 => ?_
    · have hJ2 := s2 _ _ hJ
      refine ⟨sel, hJ2, Nat.lt_of_le_of_lt ls (by decide), fun b o e => ?_, sel ++ [u], upd_same, ?_⟩
      · rw [upd_ne (ne_of_none e hD)]; exact s2 _ _ (sJ _ _ e)
      · have tk : TupK J2 (upd J2 D (.lst (sel ++ [u]))) := tk_lst hJ2
        rw [e3, if_pos c]
        exact paired_snoc (paired_mono (fun _ _ z => hm ((TupK.same s2).trans tk) z) ps) (hm tk r2)
    · refine ⟨sJ.trans s2, sel, s2 _ _ hJ, ?_⟩
      rw [e3, if_neg (by rw [c]; decide), List.append_nil]
      exact paired_mono (fun _ _ z => hm (TupK.same s2) z) ps
  · obtain ⟨sJ, sel, hJ, ps⟩ := z
    rw [← lx, List.take_length] at ps
    exact fin J sel hJ ps sJ
def spRight : Sp := fun vs H Q _ => ∃ (v : V) (L : Addr) (p : PG) (us : List V), vs = [v, .ref L] ∧ PFine p ∧ Rep H p.d v ∧ H L = some (.lst us) ∧ Paired (LPAt (fun _ => True) H) p.lps us ∧ ∀ H', Same H H' → Q (.bl true) H'
section
variable {P : Program} {w : World} {K : PySem.W.Frag} {mg : Str → Option Value} {base : Heap} {f1 f2 f3 f4 f5 : Addr} {d1 d2 d3 d4 d5 : FuncData}
theorem ok_l_right {f : Addr} {fd : FuncData} (D : Fn K mg "_law_right" st_l_right ["_law_program_here", "_law_due"] f fd) (T : BltB mg) (D_all_parts : Fn K mg "all_parts" st_all_parts ["program"] f1 d1) (G_all_parts : FnOk P w K mg base CX0 2 f1 d1 ["program"] spAllParts) (D_begun_with : Fn K mg "begun_with" st_begun_with ["program", "part"] f2 d2) (G_begun_with : FnOk P w K mg base CX0 2 f2 d2 ["program", "part"] spBegun)
    (D_pieces : Fn K mg "pieces" st_pieces ["body"] f3 d3) (G_pieces : FnOk P w K mg base CX0 2 f3 d3 ["body"] spPieces) (D_body_of : Fn K mg "body_of" st_body_of ["program", "part"] f4 d4) (G_body_of : FnOk P w K mg base CX0 2 f4 d4 ["program", "part"] spBodyOf) (D_l_pieces : Fn K mg "_law_pieces" st_l_pieces ["_law_body_here"] f5 d5) (G_l_pieces : FnOk P w K mg base CX0 (1 + 50) f5 d5 ["_law_body_here"] (spLPieces 50)) : FnOk P w K mg base CX0 60 f fd ["_law_program_here", "_law_due"] spRight := by
  refine D.F.ok sc_l_right (fun vs H Q E h => ?_) (fun cdv A outer s H vs Q E hr h => ?_)
  · obtain ⟨v, L, p, us, rfl, _⟩ := h
    rfl
  · obtain ⟨v, L, p, us, rfl, pf, rv, hL, pl, k⟩ := h
    have rts := pf.lps
    have ll := lps_len pf
    refine ⟨_, (pss_cons (ps_set (i := 2) sc_l_right.nd rfl (Or.inl rfl) (pe_call G_all_parts (hr.mono (by decide)) rfl D_all_parts.mg D_all_parts.kp D_all_parts.b .nil pass0 (pa_cons (pv 0) pa_nil)))
      (pss_cons (ps_if (PW.pt (pw_or (pt_not (pt_val (pe_callB call_isi (by rfl) T.isinstance (by decide +kernel) (pa_cons (pv 2) (pa_cons (pe_bltn (v := .ty "list") (u := .type "list") (by rfl) T.list (by decide +kernel) rfl) pa_nil))))) (pw_or1 (pt_cmpR (op_neD hr.units) (pv 2) (pe_lc (own := [("_law_part", 3), ("_law_begun", 4), ("_law_body_here", 5)]) (g := gTup K 3 (gCons (gName 3) (gCons (gName 4) (gCons (gName 5) (gNil))))) (tt := tYes) (te := (tVar 3)) rfl sc_l_right.nd (pi_list (pv 1)) (blkOk_by (own := [("_law_part", 3), ("_law_begun", 4), ("_law_body_here", 5)]) (N := ["_law_program_here", "_law_due", "_law_told", "_law_part", "_law_begun", "_law_body_here", "_law_names", "_law_some"]) (sc := defScope st_l_right) (by decide +kernel)) (fun _ _ _ _ _ => (pg_tup (by rfl) (pgs_cons (pg_name (i := 3) sc_l_right.nd rfl (Or.inl rfl)) (pgs_cons (pg_name (i := 4) sc_l_right.nd rfl (Or.inl rfl)) (pgs_cons (pg_name (i := 5) sc_l_right.nd rfl (Or.inl rfl)) pgs_nil))))) (fun _ _ _ _ _ => pts_nil) (fun _ _ _ _ _ => (pv 3))) (nomark _))))) (pss_one (ps_ret pe_bl)) pss_nil)
      (pss_cons (ps_expr (pe_bm0 PySem.F.plainAttrs_list PySem.F.slot_list_clear PySem.F.type_list_clear mt_clear (pv 2)))
      (pss_cons (ps_for PassesOwn.never rfl (pi_list (pv 1)) (pg_tup (by rfl) (pgs_cons (pg_name (i := 3) sc_l_right.nd rfl (Or.inl rfl)) (pgs_cons (pg_name (i := 4) sc_l_right.nd rfl (Or.inl rfl)) (pgs_cons (pg_name (i := 5) sc_l_right.nd rfl (Or.inl rfl)) pgs_nil)))) (pss_cons (ps_par (i := 6) (j := 7) (by rfl) sc_l_right.nd rfl rfl (by decide) rfl rfl (pa_cons (pe_call G_begun_with (hr.mono (by decide)) rfl D_begun_with.mg D_begun_with.kp D_begun_with.b .nil pass0 (pa_cons (pv 0) (pa_cons (pv 3) pa_nil))) (pa_cons (pe_call G_pieces (hr.mono (by decide)) rfl D_pieces.mg D_pieces.kp D_pieces.b .nil pass0 (pa_cons (pe_call G_body_of (hr.mono (by decide)) rfl D_body_of.mg D_body_of.kp D_body_of.b .nil pass0 (pa_cons (pv 0) (pa_cons (pv 3) pa_nil))) pa_nil)) pa_nil)) (by rfl))
      (pss_cons (ps_if (PW.pt (pw_or (pt_not (pt_val (pe_callB call_isi (by rfl) T.isinstance (by decide +kernel) (pa_cons (pv 6) (pa_cons (pe_bltn (v := .ty "list") (u := .type "list") (by rfl) T.list (by decide +kernel) rfl) pa_nil))))) (pw_or (pt_cmpR (op_neD hr.units) (pv 6) (pv 4) (nomark _)) (pw_or1 (pt_cmpR (op_neD hr.units) (pe_call G_body_of (hr.mono (by decide)) rfl D_body_of.mg D_body_of.kp D_body_of.b .nil pass0 (pa_cons (pv 0) (pa_cons (pv 3) pa_nil))) (pv 5) (nomark _)))))) (pss_one (ps_ret pe_bl)) pss_nil)
      (pss_cons (ps_if (PW.pt (pw_or (pt_not (pt_val (pe_callB call_isi (by rfl) T.isinstance (by decide +kernel) (pa_cons (pv 7) (pa_cons (pe_bltn (v := .ty "list") (u := .type "list") (by rfl) T.list (by decide +kernel) rfl) pa_nil))))) (pw_or1 (pt_cmpR (op_neD hr.units) (pv 7) (pe_call G_l_pieces (hr.mono (by decide)) rfl D_l_pieces.mg D_l_pieces.kp D_l_pieces.b .nil pass0 (pa_cons (pv 5) pa_nil)) (nomark _))))) (pss_one (ps_ret pe_bl)) pss_nil)
      (pss_cons (ps_expr (pe_bm PySem.F.plainAttrs_list PySem.F.slot_list_append PySem.F.type_list_append mt_append (pv 6) (pa_cons (pe_tup (pa_cons pe_str (pa_cons (pe_tup (pa_cons pe_str pa_nil)) pa_nil))) pa_nil)))
      (pss_one (ps_expr (pe_bm0 PySem.F.plainAttrs_list PySem.F.slot_list_clear PySem.F.type_list_clear mt_clear (pv 7)))))))))
      (pss_one (ps_ret pe_bl)))))), ?_⟩
    refine ⟨_, rfl, v, p, rfl, rv, pf.ok, fun q1 us1 J1 n1 h1 r1 s1 => ?_⟩
    refine gN ?_
    dsimp only
    have fparts : ∀ d ∈ p.parts.map Part.d, FineN 60 d := fun d hd => by
      obtain ⟨a, ha, rfl⟩ := List.mem_map.mp hd
      rw [parts_lps] at ha
      obtain ⟨e, he, rfl⟩ := List.mem_map.mp ha
      exact (rts e he).fp
    refine decS_if (p := False ∨ False) (decS_or (by exact decS_isl rfl h1) fun J2 s2 _ => (fun Q' a' b' => ?_)) (fun J2 s2 p2 => (by rcases p2 with h | h <;> exact False.elim h)) fun J2 s2 _ => ?_
    · have sH := s1.trans s2
      refine ⟨_, rfl, _, rfl, L, rfl, ⟨_, SqL.of (sH _ _ hL)⟩, fun M hM => sel_itB walk_list pl (fun _ => true) (fun e => e.a) (RR := fun J a v => Rep J (Part.d a) v) (fun tk z => z.mono tk) ll (fun J s => SqL.of (s _ _ (sH _ _ hL))) hM (fun e x J he hx sJ A B c1 c2 => ?_) fun J sel hJ ps sJ => ?_⟩
      · obtain ⟨t, bl, pv, bv, ub, rfl, ht, ra, _, _, _, _⟩ := hx
        have sHJ := sH.trans sJ
        exact ⟨t, _, rfl, SqT.of (sHJ _ _ ht), rfl, _, _, rfl, _, _, rfl, _, _, rfl, rfl, rfl, lc_yes ⟨_, rfl, c1 rfl pv J (Same.refl J) (ra.mono (TupK.same sHJ))⟩⟩
      · rw [List.filter_eq_self.mpr (fun _ _ => rfl), ← parts_lps] at ps
        refine neL (sJ _ _ (s2 _ _ h1)) hJ (r1.mono (TupK.same (s2.trans sJ))) (paired_reps ps) fparts ⟨_, rfl, ?_⟩
        exact b' J sJ fun z => z
    · have h2 := s2 _ _ h1
      have sH2 := s1.trans s2
      try unfold tNext
      dsimp only
      refine ⟨_, rfl, .inl ⟨rfl, _, SqL.of h2⟩, q1, us1, rfl, rfl, h2, ?_⟩
      have sJ0 : Same H (upd J2 q1 (.lst [])) := fun b o e => by rw [upd_ne (ne_of_none e n1)]; exact sH2 _ _ e
      generalize upd J2 q1 (.lst []) = J3 at sJ0 ⊢
      clear h2 sH2 s2 h1 r1 s1
      refine ⟨_, rfl, L, rfl, ⟨_, SqL.of (sJ0 _ _ hL)⟩, for_it (walk_list (xs := us)) (fun i σ J => Same H J ∧ ∃ (o3 o4 o5 o6 o7 : Option V), σ = [some v, some (.ref L), some (.ref q1), o3, o4, o5, o6, o7]) ⟨sJ0, _, _, _, _, _, rfl⟩ (fun i σ J _ q => SqL.of (q.1 _ _ hL)) (fun i x σ J J4 hi q y => ?_) fun σ J q => ?_⟩
      · obtain ⟨sJ, o3, o4, o5, o6, o7, rfl⟩ := q
        obtain ⟨rfl, ex⟩ := y
        obtain ⟨e, ee, hx⟩ := paired_get pl ex
        have he := List.mem_of_getElem? ee
        have rt := rts e he
        obtain ⟨t, bl, pv, bv, ub, rfl, ht, ra, _, hbl, rbs, rb⟩ := hx
        have tkJ := TupK.same sJ
        refine ⟨t, _, rfl, SqT.of (sJ _ _ ht), rfl, _, _, rfl, _, _, rfl, _, _, rfl, rfl, ?_⟩
        refine ⟨_, rfl, _, rfl, v, pv, p, e.a, e.bs, rfl, rv.mono tkJ, ra.mono tkJ, pf.ok, rt.beg, fun q2 us2 J5 n2 h2 r2 s2 => ?_⟩
        have sJ5 := sJ.trans s2
        have tk5 := TupK.same sJ5
        refine ⟨_, rfl, _, rfl, v, pv, p, e.a, e.b, rfl, rv.mono tk5, ra.mono tk5, pf.ok, rt.body, fun bu J6 s6 rbu => ?_⟩
        refine ⟨bu, e.b, rfl, rbu, rt.fb.ok, by have := rt.fb.size; omega, fun q3 us3 J7 n3 h3 r3 s7 => ⟨_, _, rfl, ?_⟩⟩
        have sJ7 := sJ5.trans (s6.trans s7)
        have n2' : H q2 = none := sJ.free n2
        have n3' : H q3 = none := (sJ5.trans s6).free n3
        have h27 := (s6.trans s7) _ _ h2
        have r27 := r2.mono (TupK.same (s6.trans s7))
        have n23 : q2 ≠ q3 := ne_of_none (s6 _ _ h2) n3
        dsimp only
        refine decS_if (p := False ∨ False ∨ False) (decS_or (by exact decS_isl rfl h27) fun J8 s8 _ => decS_or (q := False) (p := False) (fun Q' a' b' => ?_) fun J9 s9 _ => (fun Q' a' b' => ?_)) (fun J8 s8 p8 => (by rcases p8 with h | h | h <;> exact False.elim h)) fun J8 s8 _ => ?_
        · refine ⟨_, rfl, _, rfl, neL (ds := e.bs.map nameD) (s8 _ _ h27) ((sJ7.trans s8) _ _ hbl) (r27.mono (TupK.same s8)) (rbs.mono (TupK.same (sJ7.trans s8))) rt.fbs ⟨_, rfl, b' J8 (Same.refl J8) fun z => z⟩⟩
        · have sJ9 := sJ7.trans (s8.trans s9)
          have tk9 := TupK.same sJ9
          refine ⟨_, rfl, _, rfl, v, pv, p, e.a, e.b, rfl, rv.mono tk9, ra.mono tk9, pf.ok, rt.body, fun bu2 J10 s10 rbu2 => ?_⟩
          exact ⟨_, rfl, neT rbu2 (rb.mono (TupK.same (sJ9.trans s10))) (rt.fb.fine e.b (by rw [all_kids]; exact List.mem_cons_self ..)) ⟨_, rfl, b' J10 s10 fun z => z⟩⟩
        · try unfold tNext
          dsimp only
          have sJ8 := sJ7.trans s8
          have h38 := s8 _ _ h3
          have r38 := r3.mono (TupK.same s8)
          have h28 := s8 _ _ h27
          refine decS_if (p := False ∨ False) (decS_or (by exact decS_isl rfl h38) fun J9 s9 _ => (fun Q' a' b' => ?_)) (fun J9 s9 p9 => (by rcases p9 with h | h <;> exact False.elim h)) fun J9 s9 _ => ?_
          · have sJ9 := sJ8.trans s9
            refine ⟨_, rfl, _, rfl, bv, e.b, rfl, rb.mono (TupK.same sJ9), rt.fb.ok, rt.fb.dep, by have := rt.fb.size; omega, fun q4 us4 J10 n4 h4 r4 s10 => ?_⟩
            refine neL (ds := e.b.all.map PT.d) ((s9.trans s10) _ _ h38) h4 (r38.mono (TupK.same (s9.trans s10))) r4 (fun d hd => ?_) ⟨_, rfl, b' J10 s10 fun z => z⟩
            obtain ⟨u, hu, rfl⟩ := List.mem_map.mp hd
            exact rt.fb.fine u hu
          · try unfold tNext
            dsimp only
            have h29 := s9 _ _ h28
            have h39 := s9 _ _ h38
            have sJ9 := sJ8.trans s9
            refine ⟨_, rfl, .inl ⟨rfl, _, SqL.of h29⟩, by show 1 ≤ sizeLine; decide, fun t1 ht1 => ⟨by show 2 ≤ sizeLine; decide, fun t2 ht2 => ?_⟩⟩
            have st12 := (Same.new (o := .tup [V.str ("num" : Str)]) ht1).trans (Same.new (o := .tup [V.str ("a" : Str), .ref t1]) ht2)
            have l2 : us2.length ≤ 100 := by rw [Reps.len r2, List.length_map]; exact rt.lbs
            refine ⟨q2, us2, _, rfl, rfl, st12 _ _ h29, small1000 (by omega), ?_⟩
            have h3a : (upd _ q2 (.lst (us2 ++ [.ref t2]))) q3 = some (.lst us3) := (upd_ne n23.symm).trans (st12 _ _ h39)
            refine ⟨_, rfl, .inl ⟨rfl, _, SqL.of h3a⟩, q3, us3, rfl, rfl, h3a, ?_⟩
            refine ⟨fun b o eb => ?_, _, _, _, _, _, rfl⟩
            rw [upd_ne (ne_of_none eb n3'), upd_ne (ne_of_none eb n2')]
            exact st12 _ _ (sJ9 _ _ eb)
      · obtain ⟨sJ, o3, o4, o5, o6, o7, rfl⟩ := q
        exact k J sJ
end
end Ak
namespace Ak
open PySem L2
local macro_rules | `(tactic| walk_at "no attr") => `(tactic| exact rwF_no _ _ _ (by decide +kernel) (by decide +kernel) (by decide +kernel))
set_option maxHeartbeats 4000000
set_option pp.maxSteps 2000
/-! ### the drawn ones are as the law wants; turned ones; the named one -/
abbrev st_l_named_sum : Stmt := top 27
theorem sc_l_named_sum : FnScope ["_law_deal_here", "_law_a", "_law_b", "_law_num", "_law_body_here", "_law_keeper", "_law_one"] ["_law_deal_here"] (defScope st_l_named_sum) := ⟨rfl, rfl, rfl, by decide +kernel, rfl, by decide +kernel, by decide +kernel⟩
abbrev st_l_turned : Stmt := top 28
theorem sc_l_turned : FnScope ["_law_program_here", "_law_asks", "_law_keepers", "_law_functions", "_law_keeper"] ["_law_program_here"] (defScope st_l_turned) := ⟨rfl, rfl, rfl, by decide +kernel, rfl, by decide +kernel, by decide +kernel⟩
theorem paired_map {α β γ : Type} {F : α → β → Prop} {f : α → γ} {g : β → γ} (h : ∀ x y, F x y → f x = g y) : ∀ {xs : List α} {ys : List β}, Paired F xs ys → xs.map f = ys.map g
  | _, _, .nil => rfl
  | _, _, .cons a t => by rw [List.map_cons, List.map_cons, h _ _ a, paired_map h t]
theorem nm_cp {W : WW} (ok : W.Ok) (i : Nat) : CpOk (W.nm i) := by
  unfold WW.nm
  cases h : W.words[14 + i]? with
  | none => exact fun c hc => by simp [Str.empty] at hc
  | some x => exact cp_name (ok.wi x (List.mem_of_getElem? h))
theorem pfine_of {W : WW} {p : PG} (ok : W.Ok) (t : PTy W p) : PFine p := by
  have hks : ∀ k ∈ p.ks, ∃ kw ∈ W.ks, KTy W kw k := fun k hk => paired_mem t.ks hk
  have hfs : ∀ f ∈ p.fs, ∃ fw ∈ W.fs, FTy W fw f := fun f hf => paired_mem t.fs hf
  have lks := paired_len t.ks
  have lfs := paired_len t.fs
  have las : p.as.length = W.as.length := by rw [t.as, List.length_map]
  have k1 := ok.kl
  have k2 := ok.al
  have k3 := ok.fl
  have hq : ∀ kw ∈ W.ks, ∀ (hs : List (AW × Body)), hs.map (·.1) = W.as.filter (fun a => decide (a.nm ∈ kw.heard)) → ∀ q ∈ hs, q.1 ∈ W.as := fun kw _ hs e q hm => by
    have : q.1 ∈ hs.map (·.1) := List.mem_map.mpr ⟨q, hm, rfl⟩
    rw [e] at this
    exact (List.mem_filter.mp this).1
  refine ⟨⟨by omega, by omega, by omega, fun k hk => ?_, fun k hk => ?_, fun f hf => ?_⟩, ?_, ?_, fun k hk => ?_, fun k hk r hr => ?_, fun a ha => ?_, fun k hk => ?_, fun k hk r hr => ?_, fun f hf => ?_⟩
  · obtain ⟨kw, hkw, e, hs, rfl, te, se, ehs, ths⟩ := hks k hk
    show (hs.map fun p => hgOf W p.1.nm p.2).length ≤ 100
    have := congrArg List.length ehs
    rw [List.length_map] at this
    have h6 : (W.as.filter fun a => decide (a.nm ∈ kw.heard)).length ≤ W.as.length := List.length_filter_le _ _
    rw [List.length_map]; omega
  · obtain ⟨kw, hkw, e, hs, rfl, te, se, ehs, ths⟩ := hks k hk
    refine ⟨Body.pt_ok e, fun r hr => ?_⟩
    obtain ⟨q, _, rfl⟩ := List.mem_map.mp (show r ∈ hs.map fun p => hgOf W p.1.nm p.2 from hr)
    exact Body.pt_ok q.2
  · obtain ⟨fw, hfw, b, rfl, tb, sb⟩ := hfs f hf
    refine ⟨Body.pt_ok b, ?_⟩
    show (fw.kinds.mapIdx fun i κ => (W.nm i, κ.d)).length ≤ 1000
    rw [List.length_mapIdx]
    have := (ok.fk fw hfw).1
    omega
  · rw [← paired_map (f := fun kw : KW => kw.nm) (g := fun k : KG => k.nm) (fun kw k h => by
      obtain ⟨e, hs, rfl, _⟩ := h
      rfl) t.ks]
    exact ok.kn
  · rw [← paired_map (f := fun fw : FW => fw.nm) (g := fun f : FG => f.nm) (fun fw f h => by
      obtain ⟨b, rfl, _⟩ := h
      rfl) t.fs]
    exact ok.fn
  · obtain ⟨kw, hkw, e, hs, rfl, te, se, ehs, ths⟩ := hks k hk
    have e1 : ((hs.map fun p => hgOf W p.1.nm p.2).map (·.q)) = (W.as.filter fun a => decide (a.nm ∈ kw.heard)).map (·.nm) := by
      rw [← ehs, List.map_map, List.map_map]; rfl
    show ((hs.map fun p => hgOf W p.1.nm p.2).map (·.q)).Nodup
    rw [e1]
    exact List.Nodup.sublist (List.Sublist.map _ List.filter_sublist) ok.an
  · obtain ⟨kw, hkw, e, hs, rfl, te, se, ehs, ths⟩ := hks k hk
    obtain ⟨q, hm, rfl⟩ := List.mem_map.mp (show r ∈ hs.map fun p => hgOf W p.1.nm p.2 from hr)
    have hqa := hq kw hkw hs ehs q hm
    unfold PG.aOf
    rw [List.find?_isSome]
    exact ⟨agOf q.1, by rw [t.as]; exact List.mem_map.mpr ⟨_, hqa, rfl⟩, decide_eq_true rfl⟩
  · rw [t.as] at ha
    obtain ⟨aw, haw, rfl⟩ := List.mem_map.mp ha
    exact (kd_fine ok (plain_good (ok.ap aw haw).1)).le (by omega)
  · obtain ⟨kw, hkw, e, hs, rfl, te, se, ehs, ths⟩ := hks k hk
    exact ⟨cp_name (ok.ki kw hkw), (kd_fine ok (plain_good (ok.kp kw hkw).2.1)).le (by omega), (kd_fine ok (ok.note hkw)).le (by omega), nm_cp ok 0, nm_cp ok 1, fpt_of ok te se⟩
  · obtain ⟨kw, hkw, e, hs, rfl, te, se, ehs, ths⟩ := hks k hk
    obtain ⟨q, hm, rfl⟩ := List.mem_map.mp (show r ∈ hs.map fun p => hgOf W p.1.nm p.2 from hr)
    have hqa := hq kw hkw hs ehs q hm
    exact ⟨cp_name (ok.ai q.1 hqa), nm_cp ok 0, nm_cp ok 1, nm_cp ok 2, fpt_of ok (ths q hm).1 (ths q hm).2⟩
  · obtain ⟨fw, hfw, b, rfl, tb, sb⟩ := hfs f hf
    have fk := ok.fk fw hfw
    refine ⟨cp_name (ok.fi fw hfw), ?_, fun q hq => ?_, fpt_of ok tb sb⟩
    · show (fw.kinds.mapIdx fun i κ => (W.nm i, κ.d)).length ≤ 100
      rw [List.length_mapIdx]; omega
    · obtain ⟨i, ei⟩ := List.mem_iff_getElem?.mp (show q ∈ fw.kinds.mapIdx fun i κ => (W.nm i, κ.d) from hq)
      rw [List.getElem?_mapIdx] at ei
      obtain ⟨κ, eκ, rfl⟩ := Option.map_eq_some_iff.mp ei
      exact ⟨nm_cp ok i, (kd_fine ok (fk.2.1 κ (List.mem_of_getElem? eκ))).le (by omega)⟩
/-! turned -/
theorem nodup_rev {α : Type} {l : List α} (h : l.Nodup) : l.reverse.Nodup := by
  unfold List.Nodup at h ⊢
  rw [List.pairwise_reverse]
  exact h.imp fun z e => z e.symm
def turnK (k : KG) : KG := { k with hears := k.hears.reverse }
def turnP (p : PG) : PG := ⟨p.as, p.ks.map turnK, p.fs.reverse⟩
theorem turn_fine {p : PG} (h : PFine p) : PFine (turnP p) := by
  have mk : ∀ k ∈ p.ks.map turnK, ∃ k0 ∈ p.ks, k = turnK k0 := fun k hk => by
    obtain ⟨k0, h0, e⟩ := List.mem_map.mp hk
    exact ⟨k0, h0, e.symm⟩
  have mf : ∀ f ∈ p.fs.reverse, f ∈ p.fs := fun f hf => List.mem_reverse.mp hf
  refine ⟨⟨h.ok.as, by show (p.ks.map turnK).length ≤ 100; rw [List.length_map]; exact h.ok.ks, by show p.fs.reverse.length ≤ 1000; rw [List.length_reverse]; exact h.ok.fs, fun k hk => ?_, fun k hk => ?_, fun f hf => h.ok.fb f (mf f hf)⟩, ?_, ?_, fun k hk => ?_, fun k hk r hr => ?_, h.fa, fun k hk => ?_, fun k hk r hr => ?_, fun f hf => h.ff f (mf f hf)⟩
  · obtain ⟨k0, h0, rfl⟩ := mk k hk
    show k0.hears.reverse.length ≤ 100
    rw [List.length_reverse]; exact h.ok.hs k0 h0
  · obtain ⟨k0, h0, rfl⟩ := mk k hk
    exact ⟨(h.ok.kb k0 h0).1, fun r hr => (h.ok.kb k0 h0).2 r (List.mem_reverse.mp hr)⟩
  · show ((p.ks.map turnK).map (·.nm)).Nodup
    rw [List.map_map]
    exact h.ksn
  · show (p.fs.reverse.map (·.nm)).Nodup
    rw [List.map_reverse]
    exact nodup_rev h.fsn
  · obtain ⟨k0, h0, rfl⟩ := mk k hk
    show (k0.hears.reverse.map (·.q)).Nodup
    rw [List.map_reverse]
    exact nodup_rev (h.hn k0 h0)
  · obtain ⟨k0, h0, rfl⟩ := mk k hk
    exact h.isq k0 h0 r (List.mem_reverse.mp hr)
  · obtain ⟨k0, h0, rfl⟩ := mk k hk
    exact h.fk k0 h0
  · obtain ⟨k0, h0, rfl⟩ := mk k hk
    exact h.fh k0 h0 r (List.mem_reverse.mp hr)
def spTurned : Sp := fun vs H Q _ => ∃ (v : V) (p : PG), vs = [v] ∧ PFine p ∧ Rep H p.d v ∧ ∀ u H', Same H H' → Rep H' (turnP p).d u → Q u H'
/-! the named one -/
def nD : D := .t [.s "num"]
def bdS (a b : Str) : PT := .one "call" [.s "t", .s a, .t [.s a, .s b]] (.one "keep" [.s "u", .s b, .s a, .s b, .t [.s b]] (.one "sum" [.s "v", .s "+", .s a, .s "u"] (.give [.s "v"])))
def kpS (a b : Str) : KG := ⟨b, nD, nD, nD, "x", "n", .give [.s "x"], [⟨a, "x", "h", "n", .one "ask" [.s "y", .s a, .s "n"] (.give [.s "y"])⟩]⟩
def oneS (a b : Str) : FG := ⟨a, [(a, nD), (b, nD)], nD, bdS a b⟩
def pgS (a b : Str) : PG := ⟨[⟨a, nD, nD⟩], [kpS a b], [oneS a b, ⟨b, [(b, nD)], nD, .give [.s b]⟩]⟩
instance (n : Nat) (d : D) : Decidable (FineN n d) := inferInstanceAs (Decidable (_ ∧ _))
instance (x : Str) : Decidable (CpOk x) := inferInstanceAs (Decidable (∀ c ∈ x.cps.toList, c < 1114112))
theorem one_ok : ∀ w ∈ (["ask", "call", "keep", "sum"] : List Str), w ≠ "give" ∧ w ≠ "if" ∧ w ≠ "case" := by decide +kernel
theorem pgS_fine {a b : Str} (h : (a = "sum" ∧ b = "hear") ∨ (a = "hear" ∧ b = "sum")) : PFine (pgS a b) := by
  have o1 := one_ok "ask" (by decide +kernel)
  have o2 := one_ok "call" (by decide +kernel)
  have o3 := one_ok "keep" (by decide +kernel)
  have o4 := one_ok "sum" (by decide +kernel)
  rcases h with ⟨rfl, rfl⟩ | ⟨rfl, rfl⟩
  all_goals
    refine ⟨⟨by show 1 ≤ 1000; decide, by show 1 ≤ 100; decide, by show 2 ≤ 1000; decide, fun k hk => ?_, fun k hk => ?_, fun f hf => ?_⟩, by decide +kernel, by decide +kernel, fun k hk => ?_, fun k hk r hr => ?_, fun a ha => ?_, fun k hk => ?_, fun k hk r hr => ?_, fun f hf => ?_⟩
    · have hk' := List.mem_singleton.mp hk
      subst hk'
      show 1 ≤ 100; decide
    · have hk' := List.mem_singleton.mp hk
      subst hk'
      refine ⟨trivial, fun r hr => ?_⟩
      have hr' := List.mem_singleton.mp hr
      subst hr'
      exact ⟨o1, trivial⟩
    · rcases List.mem_cons.mp hf with rfl | hf
      · exact ⟨⟨o2, o3, o4, trivial⟩, by show 2 ≤ 1000; decide⟩
      · have hf' := List.mem_singleton.mp hf
        subst hf'
        exact ⟨trivial, by show 1 ≤ 1000; decide⟩
    · have hk' := List.mem_singleton.mp hk
      subst hk'
      decide +kernel
    · have hk' := List.mem_singleton.mp hk
      subst hk'
      have hr' := List.mem_singleton.mp hr
      subst hr'
      decide +kernel
    · have ha' := List.mem_singleton.mp ha
      subst ha'
      decide +kernel
    · have hk' := List.mem_singleton.mp hk
      subst hk'
      exact ⟨by decide +kernel, by decide +kernel, by decide +kernel, by decide +kernel, by decide +kernel, trivial, by decide +kernel, by decide +kernel, by decide +kernel⟩
    · have hk' := List.mem_singleton.mp hk
      subst hk'
      have hr' := List.mem_singleton.mp hr
      subst hr'
      exact ⟨by decide +kernel, by decide +kernel, by decide +kernel, by decide +kernel, ⟨o1, trivial⟩, by decide +kernel, by decide +kernel, by decide +kernel⟩
    · rcases List.mem_cons.mp hf with rfl | hf
      · exact ⟨by decide +kernel, by decide +kernel, by decide +kernel, ⟨o2, o3, o4, trivial⟩, by decide +kernel, by decide +kernel, by decide +kernel⟩
      · have hf' := List.mem_singleton.mp hf
        subst hf'
        exact ⟨by decide +kernel, by decide +kernel, by decide +kernel, trivial, by decide +kernel, by decide +kernel, by decide +kernel⟩
def spNamed : Sp := fun vs H Q _ => ∃ (d l : Addr), vs = [.ref d] ∧ DealAt H d l ∧ ∀ (v : V) (p : PG) (H' : Hp), PFine p → Rep H' p.d v → DealAt H' d l → Kp d l H H' → Q v H'
section
variable {P : Program} {w : World} {K : PySem.W.Frag} {mg : Str → Option Value} {base : Heap} {f3 : Addr} {d3 : FuncData}
theorem ok_l_turned {f : Addr} {fd : FuncData} (D : Fn K mg "_law_turned" st_l_turned ["_law_program_here"] f fd) (T : BltB mg) : FnOk P w K mg base CX0 1 f fd ["_law_program_here"] spTurned := by
  refine D.F.ok sc_l_turned (fun vs H Q E h => ?_) (fun cdv A outer s H vs Q E hr h => ?_)
  · obtain ⟨v, p, rfl, _⟩ := h
    rfl
  · obtain ⟨v, p, rfl, pf, rv, k⟩ := h
    obtain ⟨t, a, kk, ff, ua, uk, uf, rfl, ht, ha, hk, hf, ra, rk, rf⟩ := PG.at rv
    refine ⟨_, (pss_cons (ps_asg (pv 0) (pg_tup (by rfl) (pgs_cons (pg_name (i := 1) sc_l_turned.nd rfl (Or.inl rfl)) (pgs_cons (pg_name (i := 2) sc_l_turned.nd rfl (Or.inl rfl)) (pgs_cons (pg_name (i := 3) sc_l_turned.nd rfl (Or.inl rfl)) pgs_nil)))))
      (pss_one (ps_ret (pe_tup (pa_cons (pv 1) (pa_cons (pe_callTy call_tuple_of (by rfl) T.tuple (by decide +kernel) (pa_cons (pe_lc (own := [("_law_keeper", 4)]) (g := gName 4) (tt := tYes) (te := (tOp (rCatA K) (tSl (rSlA K) (tVar 4) tNoPart (tPart (tC (V.int 5)))) (tTup (tCons (tRevT K (tOp (rIxT K) (tVar 4) (tC (V.int 5)))) tNil)))) rfl sc_l_turned.nd (pi_tup (pv 2)) (blkOk_by (own := [("_law_keeper", 4)]) (N := ["_law_program_here", "_law_asks", "_law_keepers", "_law_functions", "_law_keeper"]) (sc := defScope st_l_turned) (by decide +kernel)) (fun _ _ _ _ _ => (pg_name (i := 4) sc_l_turned.nd rfl (Or.inl rfl))) (fun _ _ _ _ _ => pts_nil) (fun _ _ _ _ _ => (pe_op op_catA (pe_slice sl_tupA (pv 4) po_none (po_some pe_int)) (pe_tup (pa_cons (pe_revT (pe_ix ix_tup (pv 4) pe_int (fun _ _ => rfl))) pa_nil))))) pa_nil)) (pa_cons (pe_revT (pv 3)) pa_nil))))))), ?_⟩
    refine ⟨_, rfl, t, _, rfl, SqT.of ht, rfl, _, _, rfl, _, _, rfl, _, _, rfl, rfl, ?_⟩
    have luk := Reps.len rk
    have lks := pf.ok.ks
    rw [List.length_map] at luk
    refine ⟨_, rfl, _, rfl, kk, rfl, ⟨_, SqT.of hk⟩, fun M hM => sel_it walk_tup (reps_paired rk) (fun _ => true) turnK (RR := fun J k v => Rep J (KG.d k) v) (fun tk z => z.mono tk) (by omega) (fun J s => SqT.of (s _ _ hk)) hM (fun kg x J hkg hx sJ A B c1 c2 => ?_) fun J sel hJ ps sJ => ?_⟩
    · obtain ⟨pk, e, hs, va, vb, vc, vl, ws, rfl, hpk, he, hhs, rw1, rva, rvb, rvc, rvl⟩ := KG.at (hx.mono (TupK.same sJ))
      have lws : ws.length ≤ 100 := by
        rw [Reps.len rw1, List.length_map]; exact pf.ok.hs kg hkg
      refine ⟨rfl, lc_yes ?_⟩
      refine ⟨_, rfl, 5, rfl, ?_⟩
      refine slA_use hpk fun p5 J5 s5 h5 => ?_
      have h5 : J5 p5 = some (.tup [.str kg.nm, va, vb, vc, .ref e]) := h5
      refine ⟨_, rfl, pk, _, 5, _, rfl, rfl, SqT.of (s5 _ _ hpk), at_nat _ 5 rfl, hs, ws, rfl, SqT.of (s5 _ _ hhs), fun q hq => ⟨by show 1 ≤ sizeLine; decide, fun t1 ht1 => ?_⟩⟩
      have s6 := Same.new (o := .tup ws.reverse) hq
      have r6 := Rep.new (ds := (kg.hears.map HG.d).reverse) (vs := ws.reverse) hq (reps_rev (rw1.mono (TupK.same s5)))
      have s7 := Same.new (o := .tup [.ref q]) ht1
      have s67 := s6.trans s7
      refine ⟨p5, t1, _, _, rfl, rfl, SqT.of (s67 _ _ h5), SqT.of upd_same, by show 6 ≤ sizeLine; decide, (fun z => nomatch z), (fun _ z => nomatch z), fun _ _ p6 hp6 => ?_⟩
      have tk := TupK.same (s5.trans s67)
      have re : Rep _ (.t [.s kg.x, .s kg.n, kg.last.d]) (.ref e) := Rep.tup (H := J) (ds := [.s kg.x, .s kg.n, kg.last.d]) he (Reps.cons rfl (Reps.cons rfl (Reps.cons rvl rfl)))
      have rr := Rep.new (ds := [.s kg.nm, kg.note, kg.takes, kg.gives, .t [.s kg.x, .s kg.n, kg.last.d], .t (kg.hears.map HG.d).reverse]) (vs := [.str kg.nm, va, vb, vc, .ref e, .ref q]) hp6 (Reps.cons rfl (Reps.cons (rva.mono tk) (Reps.cons (rvb.mono tk) (Reps.cons (rvc.mono tk) (Reps.cons (re.mono tk) (Reps.cons (r6.mono (TupK.same s7)) rfl))))))
      refine c1 rfl _ _ ((s5.trans s67).trans (Same.new hp6)) ?_
      have ed : (turnK kg).d = .t [.s kg.nm, kg.note, kg.takes, kg.gives, .t [.s kg.x, .s kg.n, kg.last.d], .t (kg.hears.map HG.d).reverse] := by
        show Ak.D.t [.s kg.nm, kg.note, kg.takes, kg.gives, .t [.s kg.x, .s kg.n, kg.last.d], .t (kg.hears.reverse.map HG.d)] = _
        rw [List.map_reverse]
      rw [ed]; exact rr
    · rw [List.filter_eq_self.mpr (fun _ _ => rfl)] at ps
      refine ⟨M, sel, rfl, .inl ⟨SqL.of hJ, fun t1 ht1 => ?_⟩⟩
      have s1 := Same.new (o := .tup sel) ht1
      have r1 := Rep.new (ds := (p.ks.map turnK).map KG.d) (vs := sel) ht1 (paired_reps ps)
      refine ⟨_, rfl, ff, uf, rfl, SqT.of (s1 _ _ (sJ _ _ hf)), fun q hq => ⟨by show 3 ≤ sizeLine; decide, fun t2 ht2 => ?_⟩⟩
      have s2 := Same.new (o := .tup uf.reverse) hq
      have r2 := Rep.new (ds := (p.fs.map FG.d).reverse) (vs := uf.reverse) hq (reps_rev (rf.mono (TupK.same (sJ.trans s1))))
      have ra1 : Rep J (.t (p.as.map AG.d)) (.ref a) := Rep.tup (sJ _ _ ha) (ra.mono (TupK.same sJ))
      have rr := Rep.new (ds := [.t (p.as.map AG.d), .t ((p.ks.map turnK).map KG.d), .t (p.fs.map FG.d).reverse]) (vs := [.ref a, .ref t1, .ref q]) ht2 (Reps.cons (ra1.mono (TupK.same (s1.trans s2))) (Reps.cons (r1.mono (TupK.same s2)) (Reps.cons r2 rfl)))
      refine k _ _ (((sJ.trans s1).trans s2).trans (Same.new ht2)) ?_
      have ed : (turnP p).d = .t [.t (p.as.map AG.d), .t ((p.ks.map turnK).map KG.d), .t (p.fs.map FG.d).reverse] := by
        show Ak.D.t [.t (p.as.map AG.d), .t ((p.ks.map turnK).map KG.d), .t (p.fs.reverse.map FG.d)] = _
        rw [List.map_reverse]
      rw [ed]; exact rr
theorem ok_l_named_sum {f : Addr} {fd : FuncData} (D : Fn K mg "_law_named_sum" st_l_named_sum ["_law_deal_here"] f fd) (T : BltB mg) (D_l_draw : Fn K mg "_law_draw" st_l_draw ["_law_deal_here", "_law_many"] f3 d3) (G_l_draw : FnOk P w K mg base CX0 1 f3 d3 ["_law_deal_here", "_law_many"] spDraw) : FnOk P w K mg base CX0 2 f fd ["_law_deal_here"] spNamed := by
  refine D.F.ok sc_l_named_sum (fun vs H Q E h => ?_) (fun cdv A outer s H vs Q E hr h => ?_)
  · obtain ⟨d, l, rfl, _⟩ := h
    rfl
  · obtain ⟨d, l, rfl, hD, k⟩ := h
    refine ⟨_, (pss_cons (ps_asg (pe_ix ix_list (pe_lst (pa_cons (pe_tup (pa_cons pe_str (pa_cons pe_str pa_nil))) (pa_cons (pe_tup (pa_cons pe_str (pa_cons pe_str pa_nil))) pa_nil))) (pe_call G_l_draw (hr.mono (by decide)) rfl D_l_draw.mg D_l_draw.kp D_l_draw.b .nil pass0 (pa_cons (pv 0) (pa_cons pe_int pa_nil))) (fun _ _ => rfl)) (pg_tup (by rfl) (pgs_cons (pg_name (i := 1) sc_l_named_sum.nd rfl (Or.inl rfl)) (pgs_cons (pg_name (i := 2) sc_l_named_sum.nd rfl (Or.inl rfl)) pgs_nil))))
      (pss_cons (ps_set (i := 3) sc_l_named_sum.nd rfl (Or.inl rfl) (pe_tup (pa_cons pe_str pa_nil)))
      (pss_cons (ps_set (i := 4) sc_l_named_sum.nd rfl (Or.inl rfl) (pe_tup (pa_cons pe_str (pa_cons pe_str (pa_cons (pv 1) (pa_cons (pe_tup (pa_cons (pv 1) (pa_cons (pv 2) pa_nil))) (pa_cons (pe_tup (pa_cons pe_str (pa_cons pe_str (pa_cons (pv 2) (pa_cons (pv 1) (pa_cons (pv 2) (pa_cons (pe_tup (pa_cons (pv 2) pa_nil)) (pa_cons (pe_tup (pa_cons pe_str (pa_cons pe_str (pa_cons pe_str (pa_cons (pv 1) (pa_cons pe_str (pa_cons (pe_tup (pa_cons pe_str (pa_cons pe_str pa_nil))) pa_nil))))))) pa_nil)))))))) pa_nil)))))))
      (pss_cons (ps_set (i := 5) sc_l_named_sum.nd rfl (Or.inl rfl) (pe_tup (pa_cons (pv 2) (pa_cons (pv 3) (pa_cons (pv 3) (pa_cons (pv 3) (pa_cons (pe_tup (pa_cons pe_str (pa_cons pe_str (pa_cons (pe_tup (pa_cons pe_str (pa_cons pe_str pa_nil))) pa_nil)))) (pa_cons (pe_tup (pa_cons (pe_tup (pa_cons (pv 1) (pa_cons pe_str (pa_cons pe_str (pa_cons pe_str (pa_cons (pe_tup (pa_cons pe_str (pa_cons pe_str (pa_cons (pv 1) (pa_cons pe_str (pa_cons (pe_tup (pa_cons pe_str (pa_cons pe_str pa_nil))) pa_nil)))))) pa_nil)))))) pa_nil)) pa_nil))))))))
      (pss_cons (ps_set (i := 6) sc_l_named_sum.nd rfl (Or.inl rfl) (pe_tup (pa_cons (pv 1) (pa_cons (pe_tup (pa_cons (pe_tup (pa_cons (pv 1) (pa_cons (pv 3) pa_nil))) (pa_cons (pe_tup (pa_cons (pv 2) (pa_cons (pv 3) pa_nil))) pa_nil))) (pa_cons (pv 3) (pa_cons (pv 4) pa_nil))))))
      (pss_one (ps_ret (pe_tup (pa_cons (pe_tup (pa_cons (pe_tup (pa_cons (pv 1) (pa_cons (pv 3) (pa_cons (pv 3) pa_nil)))) pa_nil)) (pa_cons (pe_tup (pa_cons (pv 5) pa_nil)) (pa_cons (pe_tup (pa_cons (pv 6) (pa_cons (pe_tup (pa_cons (pv 2) (pa_cons (pe_tup (pa_cons (pe_tup (pa_cons (pv 2) (pa_cons (pv 3) pa_nil))) pa_nil)) (pa_cons (pv 3) (pa_cons (pe_tup (pa_cons pe_str (pa_cons (pv 2) pa_nil))) pa_nil))))) pa_nil))) pa_nil))))))))))), ?_⟩
    refine sA (oP (lst_use (ds := [.t [.s "sum", .s "hear"], .t [.s "hear", .s "sum"]]) (by exact mk_cons (mk_tup (mk_cons mk_str (mk_cons mk_str mk_nil)) le1000) (mk_cons (mk_tup (mk_cons mk_str (mk_cons mk_str mk_nil)) le1000) mk_nil)) (Same.refl H) le1000 fun X us J nX hX rX sX => ?_))
    obtain ⟨v0, _, rfl, q0, v1, _, rfl, q1, e2⟩ := rX
    cases (show _ = _ from e2)
    have nX' := hD.new nX
    refine ⟨_, rfl, d, l, 2, rfl, hD.same sX, by decide, by decide, fun r J2 r0 r1 D2 k2 => ?_⟩
    have hX2 := k2 _ _ hX nX'.1 nX'.2
    have tk2 := TupK.kp (hD.same sX) k2
    obtain ⟨a, b, p, hab, hat, hp⟩ : ∃ (a b : Str) (p : Addr), ((a = "sum" ∧ b = "hear") ∨ (a = "hear" ∧ b = "sum")) ∧ atI [v0, v1] r = some (.ref p) ∧ J2 p = some (.tup [.str a, .str b]) := by
      have : r = 0 ∨ r = 1 := by omega
      rcases this with rfl | rfl
      · obtain ⟨p, vs, rfl, hp, _, _, rfl, rfl, _, _, rfl, rfl, e⟩ := q0
        cases e
        exact ⟨"sum", "hear", p, .inl ⟨rfl, rfl⟩, rfl, tk2 _ _ hp⟩
      · obtain ⟨p, vs, rfl, hp, _, _, rfl, rfl, _, _, rfl, rfl, e⟩ := q1
        cases e
        exact ⟨"hear", "sum", p, .inr ⟨rfl, rfl⟩, rfl, tk2 _ _ hp⟩
    refine ⟨X, _, _, _, rfl, rfl, SqL.of hX2, hat, p, _, rfl, SqT.of hp, rfl, _, _, rfl, _, _, rfl, rfl, ?_⟩
    dsimp only
    refine sA (mk_use (d := nD) (by exact mk_tup (mk_cons mk_str mk_nil) le1000) (Same.refl J2) fun nv J3 s3 rn => ?_)
    refine gN ?_
    refine sA (mk_use (d := (bdS a b).d) (by exact mk_tup (mk_cons mk_str (mk_cons mk_str (mk_cons (mk_vs rfl) (mk_cons (mk_tup (mk_cons (mk_vs rfl) (mk_cons (mk_vs rfl) mk_nil)) le1000) (mk_cons (mk_tup (mk_cons mk_str (mk_cons mk_str (mk_cons (mk_vs rfl) (mk_cons (mk_vs rfl) (mk_cons (mk_vs rfl) (mk_cons (mk_tup (mk_cons (mk_vs rfl) mk_nil) le1000) (mk_cons (mk_tup (mk_cons mk_str (mk_cons mk_str (mk_cons mk_str (mk_cons (mk_vs rfl) (mk_cons mk_str (mk_cons (mk_tup (mk_cons mk_str (mk_cons mk_str mk_nil)) le1000) mk_nil)))))) le1000) mk_nil))))))) le1000) mk_nil))))) le1000) (Same.refl J3) fun bv J4 s4 rb => ?_)
    refine gN ?_
    have rn4 := rn.mono (TupK.same s4)
    refine sA (mk_use (d := (kpS a b).d) (by exact mk_tup (mk_cons (mk_vs rfl) (mk_cons (mk_v rfl rn4) (mk_cons (mk_v rfl rn4) (mk_cons (mk_v rfl rn4) (mk_cons (mk_tup (mk_cons mk_str (mk_cons mk_str (mk_cons (mk_tup (mk_cons mk_str (mk_cons mk_str mk_nil)) le1000) mk_nil))) le1000) (mk_cons (mk_tup (mk_cons (mk_tup (mk_cons (mk_vs rfl) (mk_cons mk_str (mk_cons mk_str (mk_cons mk_str (mk_cons (mk_tup (mk_cons mk_str (mk_cons mk_str (mk_cons (mk_vs rfl) (mk_cons mk_str (mk_cons (mk_tup (mk_cons mk_str (mk_cons mk_str mk_nil)) le1000) mk_nil))))) le1000) mk_nil))))) le1000) mk_nil) le1000) mk_nil)))))) le1000) (Same.refl J4) fun kv J5 s5 rk => ?_)
    refine gN ?_
    have rn5 := rn4.mono (TupK.same s5)
    have rb5 := rb.mono (TupK.same s5)
    refine sA (mk_use (d := (oneS a b).d) (by exact mk_tup (mk_cons (mk_vs rfl) (mk_cons (mk_tup (mk_cons (mk_tup (mk_cons (mk_vs rfl) (mk_cons (mk_v rfl rn5) mk_nil)) le1000) (mk_cons (mk_tup (mk_cons (mk_vs rfl) (mk_cons (mk_v rfl rn5) mk_nil)) le1000) mk_nil)) le1000) (mk_cons (mk_v rfl rn5) (mk_cons (mk_v rfl rb5) mk_nil)))) le1000) (Same.refl J5) fun ov J6 s6 ro => ?_)
    refine gN ?_
    have rn6 := rn5.mono (TupK.same s6)
    have rk6 := rk.mono (TupK.same s6)
    refine rT (mk_use (d := (pgS a b).d) (by exact mk_tup (mk_cons (mk_tup (mk_cons (mk_tup (mk_cons (mk_vs rfl) (mk_cons (mk_v rfl rn6) (mk_cons (mk_v rfl rn6) mk_nil))) le1000) mk_nil) le1000) (mk_cons (mk_tup (mk_cons (mk_v rfl rk6) mk_nil) le1000) (mk_cons (mk_tup (mk_cons (mk_v rfl ro) (mk_cons (mk_tup (mk_cons (mk_vs rfl) (mk_cons (mk_tup (mk_cons (mk_tup (mk_cons (mk_vs rfl) (mk_cons (mk_v rfl rn6) mk_nil)) le1000) mk_nil) le1000) (mk_cons (mk_v rfl rn6) (mk_cons (mk_tup (mk_cons mk_str (mk_cons (mk_vs rfl) mk_nil)) le1000) mk_nil)))) le1000) mk_nil)) le1000) mk_nil))) le1000) (Same.refl J6) fun u J7 s7 ru => ?_)
    have s37 := s3.trans (s4.trans (s5.trans (s6.trans s7)))
    exact k u (pgS a b) J7 (pgS_fine hab) ru (D2.same s37) ((Kp.same sX).trans (k2.trans (Kp.same s37)))
end
end Ak
namespace Ak
open PySem L2
local macro_rules | `(tactic| walk_at "no attr") => `(tactic| exact rwF_no _ _ _ (by decide +kernel) (by decide +kernel) (by decide +kernel))
set_option maxHeartbeats 2000000
set_option pp.maxSteps 2000
/-! ### the box of draws: _law_deal, _law_draw -/
abbrev st_l_deal : Stmt := top 10
theorem sc_l_deal : FnScope ["_law_script", "_law_base", "_law_one", "_law_some", "_law_number"] ["_law_script", "_law_base"] (defScope st_l_deal) := ⟨rfl, rfl, rfl, by decide +kernel, rfl, by decide +kernel, by decide +kernel⟩
abbrev st_l_draw : Stmt := top 11
theorem sc_l_draw : FnScope ["_law_deal_here", "_law_many", "_law_number", "_law_one", "_law_other"] ["_law_deal_here", "_law_many"] (defScope st_l_draw) := ⟨rfl, rfl, rfl, by decide +kernel, rfl, by decide +kernel, by decide +kernel⟩
structure BltD (mg : Str → Option Value) : Prop where
  len : mg "len" = none
  list : mg "list" = none
  reversed : mg "reversed" = none
  max : mg "max" = none
section
variable {P : Program} {w : World} {K : PySem.W.Frag} {mg : Str → Option Value} {base : Heap}
def DrawW (d l : Addr) (n : Int) (H : Hp) (m : Nat) (σ : L2.St) (H1 : Hp) : Prop :=
  σ = start ["_law_deal_here", "_law_many", "_law_number", "_law_one", "_law_other"] [.ref d, .int n] ∧ ∃ (s0 n0 : Int) (left : List Int), m = left.length ∧ 0 ≤ s0 ∧ s0 < 2147483647 ∧ 0 ≤ n0 ∧ (∀ x ∈ left, 0 ≤ x) ∧ H1 d = some (.dK (dealL s0 n0 l)) ∧ H1 l = some (.lst (left.map V.int)) ∧ Kp d l H H1
theorem ok_draw {f : Addr} {fd : FuncData} (D : Fn K mg "_law_draw" st_l_draw ["_law_deal_here", "_law_many"] f fd) (T : BltD mg) : FnOk P w K mg base CX0 1 f fd ["_law_deal_here", "_law_many"] spDraw := by
  refine D.F.ok sc_l_draw (fun vs H Q E h => ?_) (fun cdv A outer s H vs Q E hr h => ?_)
  · obtain ⟨d, l, n, rfl, _⟩ := h
    rfl
  · obtain ⟨d, l, n, rfl, hD, h1, h2, k⟩ := h
    have hu := hu_of hr
    have ndl := hD.ne
    refine ⟨_, (pss_cons (ps_while PassesOwn.never (PW.pt (pw_and (pt_cmpR op_eq (pe_dget hu (pv 0) pe_str (fun _ _ => rfl)) pe_int (nomark _)) (pw_and1 (pt_cmpR op_gt (pe_callB call_len_seq (by rfl) T.len (by decide +kernel) (pa_cons (pe_dget hu (pv 0) pe_str (fun _ _ => rfl)) pa_nil)) pe_int (nomark _))))) (pss_one (ps_dput hu (pv 0) pe_str (pe_bm0 PySem.F.plainAttrs_list PySem.F.slot_list_pop PySem.F.type_list_pop mt_pop (pe_dget hu (pv 0) pe_str (fun _ _ => rfl))) rfl)))
      (pss_cons (ps_set (i := 2) sc_l_draw.nd rfl (Or.inl rfl) (pe_dget hu (pv 0) pe_str (fun _ _ => rfl)))
      (pss_cons (ps_if (pt_cmpR op_gt (pv 2) pe_int (nomark _)) (pss_cons (ps_dput hu (pv 0) pe_str (pe_op op_fdivN (pv 2) (pv 1)) rfl)
      (pss_one (ps_ret (pe_op op_modN (pv 2) (pv 1))))) pss_nil)
      (pss_cons (ps_set (i := 3) sc_l_draw.nd rfl (Or.inl rfl) (pe_op op_modN (pe_op op_add (pe_op op_mul (pe_dget hu (pv 0) pe_str (fun _ _ => rfl)) pe_int) pe_int) pe_int))
      (pss_cons (ps_dput hu (pv 0) pe_str (pe_op op_modN (pe_op op_add (pe_op op_mul (pv 3) pe_int) pe_int) pe_int) rfl)
      (pss_cons (ps_set (i := 4) sc_l_draw.nd rfl (Or.inl rfl) (pe_op op_modN (pe_op op_mul (pe_dget hu (pv 0) pe_str (fun _ _ => rfl)) (pe_dget hu (pv 0) pe_str (fun _ _ => rfl))) pe_int))
      (pss_one (ps_ret (pe_op op_modN (pe_op op_add (pe_op op_mul (pe_op op_modN (pe_op op_mul (pv 3) (pv 3)) pe_int) pe_int) (pv 4)) (pv 1)))))))))), ?_⟩
    obtain ⟨s0, n0, left, a1, a2, a3, a4, e1, e2⟩ := hD
    refine ⟨DrawW d l n H, ⟨left.length, rfl, s0, n0, left, rfl, a1, a2, a3, a4, e1, e2, Kp.refl _ _ _⟩, ?_⟩
    clear e1 e2 a1 a2 a3 a4
    clear s0 n0 left
    rintro m σ H1 ⟨rfl, s0, n0, left, rfl, a1, a2, a3, a4, e1, e2, kp⟩
    have gs := deal_gs e1
    have gn := deal_gn e1
    have gl := deal_gl e1
    have kd : ∀ o, Kp d l H (upd H1 d o) := fun o b u e b1 b2 => by rw [upd_ne b1]; exact kp b u e b1 b2
    -- number == 0 and len(left) > 0
    refine dec_and (p := n0 = 0) (q := 0 < left.length) (dec_of fun Q' h => ?_) (fun _ => dec_of fun Q' h => ?_) _ (fun c => iteT ?_) (fun c => iteF ?_)
    · refine ⟨_, rfl, d, .int n0, rfl, gn, rfl, ?_⟩
      have e : decide (V.int n0 = V.int 0) = decide (n0 = 0) := decide_eq_decide.mpr ⟨fun z => V.int.inj z, fun z => by rw [z]⟩
      rw [e]
      exact h
    · refine ⟨_, rfl, d, .ref l, rfl, gl, l, _, rfl, .inl (SqL.of e2), _, _, rfl, rfl, ?_⟩
      have e : decide ((0 : Int) < ((left.map V.int).length : Int)) = decide (0 < left.length) := by rw [List.length_map]; exact decide_eq_decide.mpr (by omega)
      show Q' (.bl (decide ((0 : Int) < ((left.map V.int).length : Int)))) H1
      rw [e]
      exact h
    · -- number = left.pop()
      obtain ⟨c1, hl⟩ := c
      obtain ⟨ini, x, rfl⟩ : ∃ ini x, left = ini ++ [x] := ⟨left.dropLast, left.getLast (by intro z; rw [z] at hl; exact absurd hl (by decide)), (List.dropLast_concat_getLast _).symm⟩
      have hx : ((ini ++ [x]).map V.int)[((ini ++ [x]).map V.int).length - 1]? = some (.int x) := by simp
      have hdrop : ((ini ++ [x]).map V.int).dropLast = ini.map V.int := by simp
      refine ⟨fun σ' H' => ∃ m', m' < (ini ++ [x]).length ∧ DrawW d l n H m' σ' H', fun _ _ h => h, ?_⟩
      refine ⟨_, rfl, d, .ref l, rfl, gl, .inl ⟨rfl, _, SqL.of e2⟩, l, _, _, rfl, rfl, e2, hx, ?_⟩
      rw [hdrop]
      have e1' : (upd H1 l (.lst (ini.map V.int))) d = some (.dK (dealL s0 n0 l)) := by rw [upd_ne ndl]; exact e1
      refine ⟨_, rfl, d, upd (upd H1 l (.lst (ini.map V.int))) d (.dK (dealL s0 x l)), rfl, deal_pn x e1', ?_⟩
      refine ⟨ini.length, by simp, rfl, s0, x, ini, rfl, a1, a2, a4 x (by simp), fun y hy => a4 y (by simp [hy]), upd_same, by rw [upd_ne ndl.symm, upd_same], fun b o e b1 b2 => by rw [upd_ne b1, upd_ne b2]; exact kp b o e b1 b2⟩
    · -- number = ..; if number > 0
      refine ⟨_, rfl, d, .int n0, rfl, gn, ?_⟩
      refine ⟨_, rfl, _, _, rfl, rfl, _, rfl, ite2 (fun c => ?_) fun c => ?_⟩
      · have c := of_decide_eq_true c
        refine ⟨_, rfl, _, rfl, _, _, rfl, rfl, ⟨by omega, by omega⟩, _, rfl, d, _, rfl, deal_pn _ e1, ?_⟩
        refine ⟨_, rfl, _, rfl, _, _, rfl, rfl, by omega, ?_⟩
        refine k _ _ (Int.fmod_nonneg (by omega) (by omega)) (Int.fmod_lt_of_pos _ (by omega)) ⟨s0, n0.fdiv n, left, a1, a2, ?_, a4, upd_same, by rw [upd_ne ndl.symm]; exact e2⟩ (kd _)
        exact Int.fdiv_nonneg (by omega) (by omega)
      · have nz : ∀ {a : Int}, 0 < a → a ≠ 0 := fun h z => by omega
        refine ⟨_, rfl, d, .int s0, rfl, gs, _, _, rfl, rfl, .inl ⟨by omega, by omega⟩, _, _, rfl, rfl, _, _, rfl, rfl, nz (by decide), ?_⟩
        have o1a := Int.fmod_nonneg_of_pos (s0 * 48271 + 7919) (show (0 : Int) < 2147483647 by decide)
        have o1b := Int.fmod_lt_of_pos (s0 * 48271 + 7919) (show (0 : Int) < 2147483647 by decide)
        have s1a := Int.fmod_nonneg_of_pos ((s0 * 48271 + 7919).fmod 2147483647 * 40692 + 104729) (show (0 : Int) < 2147483399 by decide)
        have s1b := Int.fmod_lt_of_pos ((s0 * 48271 + 7919).fmod 2147483647 * 40692 + 104729) (show (0 : Int) < 2147483399 by decide)
        refine ⟨_, rfl, _, _, rfl, rfl, .inl ⟨by omega, by omega⟩, _, _, rfl, rfl, _, _, rfl, rfl, nz (by decide), ?_⟩
        refine ⟨_, rfl, d, _, rfl, deal_ps _ e1, ?_⟩
        have e1' : (upd H1 d (.dK (dealL (((s0 * 48271 + 7919).fmod 2147483647 * 40692 + 104729).fmod 2147483399) n0 l))) d = some (.dK (dealL (((s0 * 48271 + 7919).fmod 2147483647 * 40692 + 104729).fmod 2147483399) n0 l)) := upd_same
        refine ⟨_, rfl, d, _, rfl, deal_gs e1', _, rfl, d, _, rfl, deal_gs e1', _, _, rfl, rfl, .inl ⟨by omega, by omega⟩, _, _, rfl, rfl, nz (by decide), ?_⟩
        have q1 := Int.fmod_nonneg_of_pos ((s0 * 48271 + 7919).fmod 2147483647 * (s0 * 48271 + 7919).fmod 2147483647) (show (0 : Int) < 2147483629 by decide)
        have q2 := Int.fmod_lt_of_pos ((s0 * 48271 + 7919).fmod 2147483647 * (s0 * 48271 + 7919).fmod 2147483647) (show (0 : Int) < 2147483629 by decide)
        refine ⟨_, rfl, _, rfl, _, _, rfl, rfl, .inl ⟨by omega, by omega⟩, _, _, rfl, rfl, nz (by decide), ?_⟩
        refine ⟨_, _, rfl, rfl, .inl ⟨by omega, by omega⟩, _, rfl, _, _, rfl, rfl, _, rfl, _, _, rfl, rfl, nz (by omega), ?_⟩
        exact k _ _ (Int.fmod_nonneg_of_pos _ (by omega)) (Int.fmod_lt_of_pos _ (by omega)) ⟨_, n0, left, s1a, by omega, a3, a4, upd_same, by rw [upd_ne ndl.symm]; exact e2⟩ (kd _)
end
section
variable {P : Program} {w : World} {K : PySem.W.Frag} {mg : Str → Option Value} {base : Heap}
theorem ok_deal {f : Addr} {fd : FuncData} (D : Fn K mg "_law_deal" st_l_deal ["_law_script", "_law_base"] f fd) (T : BltD mg) : FnOk P w K mg base CX0 1 f fd ["_law_script", "_law_base"] (spDeal K) := by
  refine D.F.ok sc_l_deal (fun vs H Q E h => ?_) (fun cdv A outer s H vs Q E hr h => ?_)
  · obtain ⟨a, ns, b, rfl, _⟩ := h
    rfl
  · obtain ⟨a, ns, b, rfl, hS, hn, b0, b1, k⟩ := h
    have hu := hu_of hr
    have nz : ∀ {a : Int}, 0 < a → a ≠ 0 := fun h z => by omega
    refine ⟨_, (pss_cons (ps_setLc (i := 3) (own := [("_law_one", 2)]) (g := gName 2) (tt := tYes) rfl sc_l_deal.nd rfl rfl (sw_true rfl rfl rfl (by decide +kernel)) (pi_list (pe_slice sl_list (pv 0) (po_some (pv 1)) (po_some pe_int))) (blkOk_by (own := [("_law_one", 2)]) (N := ["_law_script", "_law_base", "_law_one", "_law_some", "_law_number"]) (sc := defScope st_l_deal) (by decide +kernel)) (fun _ _ _ _ _ => (pg_name (i := 2) sc_l_deal.nd rfl (Or.inl rfl))) (fun _ _ _ _ _ => pts_nil) (fun _ _ _ _ _ => (pe_callB (call_max2 rfl) (by rfl) T.max (by decide +kernel) (pa_cons (pv 2) (pa_cons (pe_op op_sub pe_int (pv 2)) pa_nil)))))
      (pss_cons (ps_set (i := 4) sc_l_deal.nd rfl (Or.inl rfl) (pe_op op_add pe_int (pv 1)))
      (pss_cons (ps_for PassesOwn.never rfl (pi_list (pv 3)) (pg_name (i := 2) sc_l_deal.nd rfl (Or.inl rfl)) (pss_one (ps_set (i := 4) sc_l_deal.nd rfl (Or.inl rfl) (pe_op op_modN (pe_op op_add (pe_op op_mul (pv 4) pe_int) (pe_op op_modN (pv 2) pe_int)) pe_int))))
      (pss_one (ps_ret (pe_disp (pps_cons pe_str (pv 4) (pps_cons pe_str pe_int (pps_cons pe_str (Ak.pe_lstRev rfl rfl T.list rfl T.reversed (pe_lc (own := [("_law_one", 2)]) (g := gName 2) (tt := _) (te := (tVar 2)) rfl sc_l_deal.nd (pi_list (pv 3)) (blkOk_by (own := [("_law_one", 2)]) (N := ["_law_script", "_law_base", "_law_one", "_law_some", "_law_number"]) (sc := defScope st_l_deal) (by decide +kernel)) (fun _ _ _ _ _ => (pg_name (i := 2) sc_l_deal.nd rfl (Or.inl rfl))) (fun _ _ _ _ _ => (pts_one (pt_cmpR op_ge (pv 2) (pe_op op_pow pe_int pe_int) (nomark _)))) (fun _ _ _ _ _ => (pv 2)))) pps_nil))) (by rfl) (by rfl) (fun z => by cases z) (by decide))))))), ?_⟩
    obtain ⟨cs, hcs, hcl⟩ : ∃ cs : List Int, cutV (ns.map V.int) (some b) (some 63) = cs.map V.int ∧ cs.length ≤ ns.length := by
      refine ⟨(ns.drop (HT.sIx (ns.map V.int).length 0 (some b))).take (HT.sIx (ns.map V.int).length (ns.map V.int).length (some 63) - HT.sIx (ns.map V.int).length 0 (some b)), ?_, ?_⟩
      · unfold cutV
        rw [List.map_take, List.map_drop]
      · rw [List.length_take, List.length_drop]; omega
    refine ⟨_, rfl, _, rfl, b, rfl, 63, rfl, a, _, rfl, hS, fun p np => ⟨p, rfl, ⟨_, SqL.of upd_same⟩, fun L hL => ?_⟩⟩
    rw [hcs] at hL ⊢
    have nLp : L ≠ p := by intro z; rw [z, upd_same] at hL; cases hL
    have nL : H L = none := by rw [upd_ne nLp] at hL; exact hL
    have hp1 : (upd H p (.lst (cs.map V.int))) p = some (.lst (cs.map V.int)) := upd_same
    refine lc_list (K := K) (a := p) (xs := cs.map V.int) (fun i H' => Same H H' ∧ H' p = some (.lst (cs.map V.int)) ∧ H' L = some (.lst ((cs.take i).map fun x => V.int (ab x)))) ⟨?_, ?_, ?_⟩ (fun i H' _ q => SqL.of q.2.1) (fun i x H' hx q => ?_) fun H' q => ?_
    · exact (Same.new np).trans (Same.new hL)
    · rw [upd_ne nLp.symm]; exact hp1
    · rw [upd_same]; rfl
    · obtain ⟨z, hz, rfl⟩ : ∃ z, cs[i]? = some z ∧ x = V.int z := by
        rw [List.getElem?_map] at hx
        cases h : cs[i]? with
        | none => rw [h] at hx; cases hx
        | some z => rw [h] at hx; exact ⟨z, rfl, (Option.some.inj hx).symm⟩
      obtain ⟨q1, q2, q3⟩ := q
      have hi : i < cs.length := (List.getElem?_eq_some_iff.mp hz).1
      refine ⟨rfl, lc_yes ?_⟩
      refine ⟨_, rfl, _, rfl, _, _, rfl, rfl, _, _, rfl, _, q3, small1000 (by simp; omega), ?_, ?_, ?_⟩
      · intro c o e
        rw [upd_ne (ne_of_none e nL)]; exact q1 c o e
      · rw [upd_ne nLp.symm]; exact q2
      · rw [upd_same]
        have e : cs.take (i + 1) = cs.take i ++ [z] := by rw [List.take_succ, hz]; rfl
        rw [e, List.map_append]
        rfl
    · rw [List.length_map, List.take_length] at q
      obtain ⟨q1, q2, q3⟩ := q
      -- number = 7919 + base
      refine ⟨_, rfl, _, _, rfl, rfl, ?_⟩
      -- for one in some_here
      refine ⟨_, rfl, L, rfl, ⟨_, SqL.of q3⟩, for_list (xs := cs.map fun x => V.int (ab x)) (fun i σ H1 => H1 = H' ∧ ∃ (v2 : Option V) (num : Int), σ = [some (.ref a), some (.int b), v2, some (.ref L), some (.int num)] ∧ 0 ≤ num ∧ num < 2147483647) ⟨rfl, _, _, rfl, by omega, by omega⟩ (fun i σ H1 _ r => by rw [r.1]; exact SqL.of q3) (fun i x σ H1 hx r => ?_) fun σ H1 r => ?_⟩
      · obtain ⟨rfl, v2, num, rfl, n1, n2⟩ := r
        obtain ⟨z, rfl⟩ : ∃ z, x = V.int z := by
          rw [List.getElem?_map] at hx
          cases h : cs[i]? with
          | none => rw [h] at hx; cases hx
          | some z => rw [h] at hx; exact ⟨_, (Option.some.inj hx).symm⟩
        refine ⟨_, rfl, _, _, rfl, rfl, .inl ⟨by omega, by omega⟩, _, rfl, _, _, rfl, rfl, nz (by decide), _, _, rfl, rfl, _, _, rfl, rfl, nz (by decide), ?_⟩
        exact ⟨rfl, _, _, rfl, Int.fmod_nonneg_of_pos _ (by decide), Int.fmod_lt_of_pos _ (by decide)⟩
      · obtain ⟨rfl, v2, num, rfl, n1, n2⟩ := r
        -- the dict
        intro d hd
        refine ⟨_, rfl, ?_⟩
        have ndL : L ≠ d := ne_of_none q3 hd
        refine ⟨_, rfl, L, rfl, ⟨_, SqL.of (by rw [upd_ne ndL]; exact q3)⟩, fun M hM => ?_⟩
        have nMd : M ≠ d := by intro z; rw [z, upd_same] at hM; cases hM
        have nM : H1 M = none := by rw [upd_ne nMd] at hM; exact hM
        refine lc_list (K := K) (a := L) (xs := cs.map fun x => V.int (ab x)) (fun i H2 => Same H1 H2 ∧ H2 d = some (.dK []) ∧ ∃ sel : List Int, H2 M = some (.lst (sel.map V.int)) ∧ sel.length ≤ i ∧ ∀ x ∈ sel, 0 ≤ x) ⟨?_, ?_, ?_⟩ (fun i H2 _ r => SqL.of (r.1 _ _ q3)) (fun i x H2 hx r => ?_) fun H2 r => ?_
        · exact (Same.new hd).trans (Same.new hM)
        · rw [upd_ne nMd.symm, upd_same]
        · exact ⟨[], by rw [upd_same]; rfl, Nat.le_refl _, fun _ z => nomatch z⟩
        · obtain ⟨z, hz, rfl⟩ : ∃ z, cs[i]? = some z ∧ x = V.int (ab z) := by
            rw [List.getElem?_map] at hx
            cases h : cs[i]? with
            | none => rw [h] at hx; cases hx
            | some z => rw [h] at hx; exact ⟨z, rfl, (Option.some.inj hx).symm⟩
          obtain ⟨r1, r2, sel, r3, r4, r5⟩ := r
          have hi : i < cs.length := (List.getElem?_eq_some_iff.mp hz).1
          refine ⟨rfl, _, rfl, _, _, rfl, rfl, ⟨by decide, by decide, by decide⟩, _, _, rfl, rfl, _, rfl, ite2 (fun c => ?_) fun c => ?_⟩
          · refine ⟨_, rfl, _, r3, small1000 (by simp; omega), ?_, ?_, sel ++ [ab z], ?_, by simp; omega, ?_⟩
            · intro c o e
              rw [upd_ne (ne_of_none e nM)]; exact r1 c o e
            · rw [upd_ne nMd.symm]; exact r2
            · rw [upd_same, List.map_append]; rfl
            · intro y hy
              rcases List.mem_append.mp hy with hy | hy
              · exact r5 y hy
              · rw [List.mem_singleton.mp hy]; exact ab_nonneg z
          · exact ⟨r1, r2, sel, r3, by omega, r5⟩
        · obtain ⟨r1, r2, sel, r3, r4, r5⟩ := r
          refine ⟨M, _, rfl, SqL.of r3, fun q hq => ?_⟩
          have nqd : q ≠ d := by intro z; rw [z, r2] at hq; cases hq
          refine ⟨by rw [upd_ne nqd.symm]; exact r2, dealL num 0 q, rfl, (by show 3 ≤ 15; decide), ?_⟩
          have em : mergeK ([] : List (Key × V)) (dealL num 0 q) = dealL num 0 q := deal_merge num 0 q
          rw [em, ← List.map_reverse]
          refine k d q _ (q1.free hd) ((q1.trans r1).free hq) ⟨num, 0, sel.reverse, n1, n2, by decide, fun x hx => r5 x (List.mem_reverse.mp hx), upd_same, by rw [upd_ne nqd, upd_same]⟩ ?_
          intro c o e
          rw [upd_ne (ne_of_none (q1 _ _ e) hd), upd_ne (ne_of_none (r1 _ _ (q1 _ _ e)) hq)]
          exact r1 _ _ (q1 _ _ e)
end

/-! ### the law -/
abbrev st_law : Stmt := top 29
theorem sc_law : FnScope ["_law_script", "_law_program_here", "_law_other", "_law_one"] ["_law_script"] (defScope st_law) := ⟨rfl, rfl, rfl, by decide +kernel, rfl, by decide +kernel, by decide +kernel⟩
theorem call1 {sp : Sp} {te : TE} {σ : L2.St} {H : Hp} {Q : VK} (h : te σ H fun v H1 => sp [v] H1 Q L2.E0) : tCall sp [] L2.E0 (tCons te tNil) σ H Q := h
def spLaw (K : PySem.W.Frag) : Sp := fun vs H Q _ => ∃ (a : Addr) (ns : List Int), vs = [.ref a] ∧ SqL K H a (ns.map V.int) ∧ ns.length ≤ 63 ∧ ∀ H', Q (.bl true) H'
theorem ok0 : PG.Ok ⟨[], [], []⟩ := ⟨Nat.zero_le _, Nat.zero_le _, Nat.zero_le _, (fun _ z => nomatch z), (fun _ z => nomatch z), (fun _ z => nomatch z)⟩
section
variable {P : Program} {w : World} {K : PySem.W.Frag} {mg : Str → Option Value} {base : Heap} {f1 f2 f3 f4 f5 f6 f7 : Addr} {d1 d2 d3 d4 d5 d6 d7 : FuncData}
theorem ok_law {f : Addr} {fd : FuncData} (D : Fn K mg "law" st_law ["_law_script"] f fd) (D_l_deal : Fn K mg "_law_deal" st_l_deal ["_law_script", "_law_base"] f1 d1) (G_l_deal : FnOk P w K mg base CX0 1 f1 d1 ["_law_script", "_law_base"] (spDeal K)) (D_l_program : Fn K mg "_law_program" st_l_program ["_law_deal_here"] f2 d2) (G_l_program : FnOk P w K mg base CX0 10 f2 d2 ["_law_deal_here"] spProgram)
    (D_l_turned : Fn K mg "_law_turned" st_l_turned ["_law_program_here"] f3 d3) (G_l_turned : FnOk P w K mg base CX0 1 f3 d3 ["_law_program_here"] spTurned) (D_l_named_sum : Fn K mg "_law_named_sum" st_l_named_sum ["_law_deal_here"] f4 d4) (G_l_named_sum : FnOk P w K mg base CX0 2 f4 d4 ["_law_deal_here"] spNamed)
    (D_l_right : Fn K mg "_law_right" st_l_right ["_law_program_here", "_law_due"] f5 d5) (G_l_right : FnOk P w K mg base CX0 60 f5 d5 ["_law_program_here", "_law_due"] spRight) (D_l_parts : Fn K mg "_law_parts" st_l_parts ["_law_program_here"] f6 d6) (G_l_parts : FnOk P w K mg base CX0 1 f6 d6 ["_law_program_here"] spLParts) (D_all_parts : Fn K mg "all_parts" st_all_parts ["program"] f7 d7) (G_all_parts : FnOk P w K mg base CX0 2 f7 d7 ["program"] spAllParts) : FnOk P w K mg base CX0 61 f fd ["_law_script"] (spLaw K) := by
  refine D.F.ok sc_law (fun vs H Q E h => ?_) (fun cdv A outer s H vs Q E hr h => ?_)
  · obtain ⟨a, ns, rfl, _⟩ := h
    rfl
  · obtain ⟨a, ns, rfl, hS, hlen, k⟩ := h
    refine ⟨_, (pss_cons (ps_set (i := 1) sc_law.nd rfl (Or.inl rfl) (pe_call G_l_program (hr.mono (by decide)) rfl D_l_program.mg D_l_program.kp D_l_program.b .nil pass0 (pa_cons (pe_call G_l_deal (hr.mono (by decide)) rfl D_l_deal.mg D_l_deal.kp D_l_deal.b .nil pass0 (pa_cons (pv 0) (pa_cons pe_int pa_nil))) pa_nil)))
      (pss_cons (ps_set (i := 2) sc_law.nd rfl (Or.inl rfl) (pe_call G_l_program (hr.mono (by decide)) rfl D_l_program.mg D_l_program.kp D_l_program.b .nil pass0 (pa_cons (pe_call G_l_deal (hr.mono (by decide)) rfl D_l_deal.mg D_l_deal.kp D_l_deal.b .nil pass0 (pa_cons (pv 0) (pa_cons pe_int pa_nil))) pa_nil)))
      (pss_cons (ps_for PassesOwn.never rfl (pi_list (pe_lst (pa_cons (pv 1) (pa_cons (pv 2) (pa_cons (pe_call G_l_turned (hr.mono (by decide)) rfl D_l_turned.mg D_l_turned.kp D_l_turned.b .nil pass0 (pa_cons (pv 1) pa_nil)) (pa_cons (pe_call G_l_named_sum (hr.mono (by decide)) rfl D_l_named_sum.mg D_l_named_sum.kp D_l_named_sum.b .nil pass0 (pa_cons (pe_call G_l_deal (hr.mono (by decide)) rfl D_l_deal.mg D_l_deal.kp D_l_deal.b .nil pass0 (pa_cons (pv 0) (pa_cons pe_int pa_nil))) pa_nil)) (pa_cons (pv 1) (pa_cons (pv 1) pa_nil)))))))) (pg_name (i := 3) sc_law.nd rfl (Or.inl rfl)) (pss_one (ps_if (pt_not (pt_val (pe_call G_l_right (hr.mono (by decide)) rfl D_l_right.mg D_l_right.kp D_l_right.b .nil pass0 (pa_cons (pv 3) (pa_cons (pe_call G_l_parts (hr.mono (by decide)) rfl D_l_parts.mg D_l_parts.kp D_l_parts.b .nil pass0 (pa_cons (pv 3) pa_nil)) pa_nil))))) (pss_one (ps_ret pe_bl)) pss_nil)))
      (pss_one (ps_ret (pe_cmpR (op_eqD hr.units) (pe_call G_all_parts (hr.mono (by decide)) rfl D_all_parts.mg D_all_parts.kp D_all_parts.b .nil pass0 (pa_cons (pe_tup (pa_cons (pe_tup pa_nil) (pa_cons (pe_tup pa_nil) (pa_cons (pe_tup pa_nil) pa_nil)))) pa_nil)) (pe_lst pa_nil) (nomark _))))))), ?_⟩
    have kpS : ∀ {d l : Addr} {H0 H1 H2 : Hp}, Same H0 H1 → H0 d = none → H0 l = none → Kp d l H1 H2 → Same H0 H2 := fun s1 hd hl kk b o e => kk b o (s1 b o e) (ne_of_none e hd) (ne_of_none e hl)
    refine ⟨_, rfl, a, ns, 0, rfl, hS, by omega, by decide, by decide, fun d l H1 hd hl D1 s1 => ⟨d, l, rfl, D1, fun v W p H2 ok ty rv D2 k2 => ?_⟩⟩
    have t2 := kpS s1 hd hl k2
    have pf := pfine_of ok ty
    refine gN ?_
    refine ⟨_, rfl, a, ns, 1, rfl, t2.seq hS, by omega, by decide, by decide, fun d' l' H3 hd' hl' D3 s3 => ⟨d', l', rfl, D3, fun v2 W2 p2 H4 ok2 ty2 rv2 D4 k4 => ?_⟩⟩
    have t4 := kpS s3 hd' hl' k4
    have pf2 := pfine_of ok2 ty2
    have rv4 := rv.mono (TupK.same t4)
    refine gN ?_
    refine ⟨_, rfl, _, rfl, _, rfl, v, p, rfl, pf, rv4, fun u3 H5 s5 r3 => ?_⟩
    have t5 := t4.trans s5
    refine ⟨_, rfl, a, ns, 2, rfl, (t2.trans t5).seq hS, by omega, by decide, by decide, fun d'' l'' H6 hd'' hl'' D6 s6 => ⟨d'', l'', rfl, D6, fun v4 p4 H7 pf4 r4 D7 k7 => ?_⟩⟩
    have t7 := kpS s6 hd'' hl'' k7
    refine ⟨_, rfl, _, rfl, by show 6 ≤ sizeLine; decide, fun X hX => ?_⟩
    have sX := Same.new (o := .lst [v, v2, u3, v4, v, v]) hX
    have t8 := t7.trans sX
    have aX := upd_same (H := H7) (a := X) (o := .lst [v, v2, u3, v4, v, v])
    have tk8 := TupK.same t8
    have all6 : ∀ x ∈ [v, v2, u3, v4, v, v], ∃ p, PFine p ∧ Rep (upd H7 X (.lst [v, v2, u3, v4, v, v])) p.d x := by
      have rva := (rv4.mono (TupK.same s5)).mono tk8
      intro x hx
      simp only [List.mem_cons, List.not_mem_nil, or_false] at hx
      rcases hx with rfl | rfl | rfl | rfl | rfl | rfl
      · exact ⟨p, pf, rva⟩
      · exact ⟨p2, pf2, (rv2.mono (TupK.same s5)).mono tk8⟩
      · exact ⟨turnP p, turn_fine pf, r3.mono tk8⟩
      · exact ⟨p4, pf4, r4.mono (TupK.same sX)⟩
      · exact ⟨p, pf, rva⟩
      · exact ⟨p, pf, rva⟩
    generalize upd H7 X (.lst [v, v2, u3, v4, v, v]) = G9 at all6 aX ⊢
    generalize [v, v2, u3, v4, v, v] = ls at all6 aX
    refine ⟨X, rfl, ⟨_, SqL.of aX⟩, for_list (xs := ls) (fun i σ J => Same G9 J ∧ ∃ o3, σ = [some (.ref a), some v, some v2, o3]) ⟨Same.refl _, _, rfl⟩ (fun i σ J _ q => SqL.of (q.1 _ _ aX)) (fun i x σ J hx q => ?_) fun σ J q => ?_⟩
    · obtain ⟨sm, o3, rfl⟩ := q
      obtain ⟨pp, fpp, rpp⟩ := all6 x (List.mem_of_getElem? hx)
      have rJ := rpp.mono (TupK.same sm)
      refine ⟨_, rfl, _, rfl, x, pp, rfl, rJ, fpp.ok, fpp.isq, fun q us J1 nq hq pl sq => ⟨x, q, pp, us, rfl, fpp, rJ.mono (TupK.same sq), hq, pl, fun J2 s2 => ?_⟩⟩
      exact ⟨_, rfl, iteF ⟨sm.trans (sq.trans s2), _, rfl⟩⟩
    · obtain ⟨sm, o3, rfl⟩ := q
      dsimp only
      refine rT (oP (call1 (mk_use (d := PG.d ⟨[], [], []⟩) (by exact mk_tup (mk_cons (mk_tup mk_nil le1000) (mk_cons (mk_tup mk_nil le1000) (mk_cons (mk_tup mk_nil le1000) mk_nil))) le1000) (Same.refl J) fun u J1 s1 ru => ⟨u, ⟨[], [], []⟩, rfl, ru, ok0, fun q us J2 nq hq rq s2 => ?_⟩)))
      have eu : us = [] := rq
      subst eu
      refine ⟨Nat.zero_le _, fun z hz => ⟨.list [], .list [], .lst (SqL.of ((Same.new hz) _ _ hq)) .nil, .lst (SqL.of upd_same) .nil, by decide +kernel, by decide +kernel, ?_⟩⟩
      have e0 : PyData.eqv (.list []) (.list []) = true := by simp [PyData.eqv, PyData.eqvAll]
      rw [e0]
      exact k _
end
end Ak
namespace Ak
open PySem L2
local macro_rules | `(tactic| walk_at "no attr") => `(tactic| exact rwF_no _ _ _ (by decide +kernel) (by decide +kernel) (by decide +kernel))
set_option maxHeartbeats 1000000 in
theorem law_ok {P : Program} {w : World} {K : PySem.W.Frag} {mg : Str → Option Value} {base : Heap}
    {f_bodies_of f_parts_of_keeper f_all_parts f_row_named f_body_of f_begun_with f_pieces f_l_deal f_l_draw f_l_words f_l_heads f_l_bound f_l_have f_l_all f_l_call_piece f_l_go f_l_piece f_l_closed f_l_body f_l_hear f_l_program f_l_pieces f_l_parts f_l_right f_l_named_sum f_l_turned f_law : Addr} {d_bodies_of d_parts_of_keeper d_all_parts d_row_named d_body_of d_begun_with d_pieces d_l_deal d_l_draw d_l_words d_l_heads d_l_bound d_l_have d_l_all d_l_call_piece d_l_go d_l_piece d_l_closed d_l_body d_l_hear d_l_program d_l_pieces d_l_parts d_l_right d_l_named_sum d_l_turned d_law : FuncData}
    (D_bodies_of : Fn K mg "bodies_of" st_bodies_of ["piece"] f_bodies_of d_bodies_of)
    (D_parts_of_keeper : Fn K mg "parts_of_keeper" st_parts_of_keeper ["keeper"] f_parts_of_keeper d_parts_of_keeper)
    (D_all_parts : Fn K mg "all_parts" st_all_parts ["program"] f_all_parts d_all_parts)
    (D_row_named : Fn K mg "row_named" st_row_named ["rows", "name"] f_row_named d_row_named)
    (D_body_of : Fn K mg "body_of" st_body_of ["program", "part"] f_body_of d_body_of)
    (D_begun_with : Fn K mg "begun_with" st_begun_with ["program", "part"] f_begun_with d_begun_with)
    (D_pieces : Fn K mg "pieces" st_pieces ["body"] f_pieces d_pieces)
    (D_l_deal : Fn K mg "_law_deal" st_l_deal ["_law_script", "_law_base"] f_l_deal d_l_deal)
    (D_l_draw : Fn K mg "_law_draw" st_l_draw ["_law_deal_here", "_law_many"] f_l_draw d_l_draw)
    (D_l_words : Fn K mg "_law_words" st_l_words ["_law_deal_here", "_law_many"] f_l_words d_l_words)
    (D_l_heads : Fn K mg "_law_heads" st_l_heads ["_law_deal_here"] f_l_heads d_l_heads)
    (D_l_bound : Fn K mg "_law_bound" st_l_bound ["_law_world", "_law_env", "_law_kind"] f_l_bound d_l_bound)
    (D_l_have : Fn K mg "_law_have" st_l_have ["_law_deal_here", "_law_world", "_law_env", "_law_kind", "_law_heads_here"] f_l_have d_l_have)
    (D_l_all : Fn K mg "_law_all" st_l_all ["_law_deal_here", "_law_world", "_law_env", "_law_kinds", "_law_heads_here"] f_l_all d_l_all)
    (D_l_call_piece : Fn K mg "_law_call_piece" st_l_call_piece ["_law_deal_here", "_law_world", "_law_env", "_law_heads_here", "_law_later"] f_l_call_piece d_l_call_piece)
    (D_l_go : Fn K mg "_law_go" st_l_go ["_law_deal_here", "_law_world", "_law_env", "_law_heads_here", "_law_h", "_law_kind"] f_l_go d_l_go)
    (D_l_piece : Fn K mg "_law_piece" st_l_piece ["_law_deal_here", "_law_world", "_law_env", "_law_heads_here", "_law_later"] f_l_piece d_l_piece)
    (D_l_closed : Fn K mg "_law_closed" st_l_closed ["_law_heads_here", "_law_body_here"] f_l_closed d_l_closed)
    (D_l_body : Fn K mg "_law_body" st_l_body ["_law_deal_here", "_law_world", "_law_env", "_law_due", "_law_later", "_law_deep"] f_l_body d_l_body)
    (D_l_hear : Fn K mg "_law_hear" st_l_hear ["_law_deal_here", "_law_world", "_law_keeper", "_law_ask"] f_l_hear d_l_hear)
    (D_l_program : Fn K mg "_law_program" st_l_program ["_law_deal_here"] f_l_program d_l_program)
    (D_l_pieces : Fn K mg "_law_pieces" st_l_pieces ["_law_body_here"] f_l_pieces d_l_pieces)
    (D_l_parts : Fn K mg "_law_parts" st_l_parts ["_law_program_here"] f_l_parts d_l_parts)
    (D_l_right : Fn K mg "_law_right" st_l_right ["_law_program_here", "_law_due"] f_l_right d_l_right)
    (D_l_named_sum : Fn K mg "_law_named_sum" st_l_named_sum ["_law_deal_here"] f_l_named_sum d_l_named_sum)
    (D_l_turned : Fn K mg "_law_turned" st_l_turned ["_law_program_here"] f_l_turned d_l_turned)
    (D_law : Fn K mg "law" st_law ["_law_script"] f_law d_law)
    (TD : BltD mg) (TB : BltB mg) (TC : BltCl mg) (TG : BltBg mg) :
    FnOk P w K mg base CX0 61 f_law d_law ["_law_script"] (spLaw K) := by
  have G_l_deal : FnOk P w K mg base CX0 1 f_l_deal d_l_deal ["_law_script", "_law_base"] (spDeal K) := ok_deal D_l_deal TD
  have G_l_draw : FnOk P w K mg base CX0 1 f_l_draw d_l_draw ["_law_deal_here", "_law_many"] (spDraw) := ok_draw D_l_draw TD
  have G_l_words : FnOk P w K mg base CX0 2 f_l_words d_l_words ["_law_deal_here", "_law_many"] (spWordsN) := ok_l_words D_l_words TB D_l_draw G_l_draw
  have G_l_heads : FnOk P w K mg base CX0 3 f_l_heads d_l_heads ["_law_deal_here"] (spHeads) := ok_l_heads D_l_heads TB D_l_draw G_l_draw D_l_words G_l_words
  have G_l_bound : FnOk P w K mg base CX0 1 f_l_bound d_l_bound ["_law_world", "_law_env", "_law_kind"] (spBound) := ok_l_bound D_l_bound TB
  have G_l_have : FnOk P w K mg base CX0 2 f_l_have d_l_have ["_law_deal_here", "_law_world", "_law_env", "_law_kind", "_law_heads_here"] (spHave) := ok_l_have D_l_have TB D_l_draw G_l_draw D_l_bound G_l_bound
  have G_l_all : FnOk P w K mg base CX0 3 f_l_all d_l_all ["_law_deal_here", "_law_world", "_law_env", "_law_kinds", "_law_heads_here"] (spAll) := ok_l_all D_l_all TB D_l_have G_l_have
  have G_l_call_piece : FnOk P w K mg base CX0 4 f_l_call_piece d_l_call_piece ["_law_deal_here", "_law_world", "_law_env", "_law_heads_here", "_law_later"] (spCallP) := ok_l_call_piece D_l_call_piece TB D_l_draw G_l_draw D_l_all G_l_all D_l_bound G_l_bound
  have G_l_go : FnOk P w K mg base CX0 4 f_l_go d_l_go ["_law_deal_here", "_law_world", "_law_env", "_law_heads_here", "_law_h", "_law_kind"] (spGo) := ok_l_go D_l_go TB D_l_all G_l_all D_l_bound G_l_bound
  have G_l_piece : FnOk P w K mg base CX0 5 f_l_piece d_l_piece ["_law_deal_here", "_law_world", "_law_env", "_law_heads_here", "_law_later"] (spPiece) := ok_l_piece D_l_piece TB D_l_draw G_l_draw D_l_all G_l_all D_l_bound G_l_bound D_l_have G_l_have D_l_call_piece G_l_call_piece D_l_go G_l_go
  have G_l_closed : FnOk P w K mg base CX0 1 f_l_closed d_l_closed ["_law_heads_here", "_law_body_here"] (spClosed) := ok_l_closed D_l_closed TC
  have G_l_body : FnOk P w K mg base CX0 (5 + 3) f_l_body d_l_body ["_law_deal_here", "_law_world", "_law_env", "_law_due", "_law_later", "_law_deep"] (spBody 3) := ok_l_body D_l_body TB D_l_draw G_l_draw D_l_piece G_l_piece D_l_bound G_l_bound D_l_have G_l_have D_l_call_piece G_l_call_piece D_l_closed G_l_closed 3
  have G_l_hear : FnOk P w K mg base CX0 9 f_l_hear d_l_hear ["_law_deal_here", "_law_world", "_law_keeper", "_law_ask"] (spHear) := ok_l_hear D_l_hear TB D_l_draw G_l_draw D_l_piece G_l_piece D_l_go G_l_go D_l_closed G_l_closed D_l_body G_l_body
  have G_l_program : FnOk P w K mg base CX0 10 f_l_program d_l_program ["_law_deal_here"] (spProgram) := ok_l_program D_l_program TB D_l_draw G_l_draw D_l_heads G_l_heads D_l_hear G_l_hear D_l_body G_l_body
  have G_row_named : FnOk P w K mg base CX0 1 f_row_named d_row_named ["rows", "name"] (spRowN K) := ok_row_named D_row_named
  have G_bodies_of : FnOk P w K mg base CX0 1 f_bodies_of d_bodies_of ["piece"] (spBodies) := ok_bodies_of D_bodies_of
  have G_pieces : FnOk P w K mg base CX0 2 f_pieces d_pieces ["body"] (spPieces) := ok_pieces D_pieces D_bodies_of G_bodies_of
  have G_parts_of_keeper : FnOk P w K mg base CX0 1 f_parts_of_keeper d_parts_of_keeper ["keeper"] (spPartsK K) := ok_parts_of_keeper D_parts_of_keeper
  have G_all_parts : FnOk P w K mg base CX0 2 f_all_parts d_all_parts ["program"] (spAllParts) := ok_all_parts D_all_parts D_parts_of_keeper G_parts_of_keeper
  have G_body_of : FnOk P w K mg base CX0 2 f_body_of d_body_of ["program", "part"] (spBodyOf) := ok_body_of D_body_of D_row_named G_row_named
  have G_begun_with : FnOk P w K mg base CX0 2 f_begun_with d_begun_with ["program", "part"] (spBegun) := ok_begun_with D_begun_with TG D_row_named G_row_named
  have G_l_pieces : FnOk P w K mg base CX0 (1 + 50) f_l_pieces d_l_pieces ["_law_body_here"] (spLPieces 50) := ok_l_pieces D_l_pieces 50
  have G_l_parts : FnOk P w K mg base CX0 1 f_l_parts d_l_parts ["_law_program_here"] (spLParts) := ok_l_parts D_l_parts TG
  have G_l_right : FnOk P w K mg base CX0 60 f_l_right d_l_right ["_law_program_here", "_law_due"] (spRight) := ok_l_right D_l_right TB D_all_parts G_all_parts D_begun_with G_begun_with D_pieces G_pieces D_body_of G_body_of D_l_pieces G_l_pieces
  have G_l_named_sum : FnOk P w K mg base CX0 2 f_l_named_sum d_l_named_sum ["_law_deal_here"] (spNamed) := ok_l_named_sum D_l_named_sum TB D_l_draw G_l_draw
  have G_l_turned : FnOk P w K mg base CX0 1 f_l_turned d_l_turned ["_law_program_here"] (spTurned) := ok_l_turned D_l_turned TB
  exact ok_law D_law D_l_deal G_l_deal D_l_program G_l_program D_l_turned G_l_turned D_l_named_sum G_l_named_sum D_l_right G_l_right D_l_parts G_l_parts D_all_parts G_all_parts
end Ak
namespace Ak
open PySem L2
local macro_rules | `(tactic| walk_at "no attr") => `(tactic| exact rwF_no _ _ _ (by decide +kernel) (by decide +kernel) (by decide +kernel))
set_option maxHeartbeats 0 in
theorem all_mk {l : PySem.W.OpenLaw} {w : World} {K : PySem.W.Frag} {h : Heap} {mg : Str → Option Value} {fa : Addr} (X : K.In h) (G : h.Ns mainGlobals mg) (hfa : mg "law" = some (.ref fa))
    {f_bodies_of f_parts_of_keeper f_all_parts f_row_named f_body_of f_begun_with f_pieces f_l_deal f_l_draw f_l_words f_l_heads f_l_bound f_l_have f_l_all f_l_call_piece f_l_go f_l_piece f_l_closed f_l_body f_l_hear f_l_program f_l_pieces f_l_parts f_l_right f_l_named_sum f_l_turned f_law : Addr} {od_bodies_of an_bodies_of od_parts_of_keeper an_parts_of_keeper od_all_parts an_all_parts od_row_named an_row_named od_body_of an_body_of od_begun_with an_begun_with od_pieces an_pieces od_l_deal an_l_deal od_l_draw an_l_draw od_l_words an_l_words od_l_heads an_l_heads od_l_bound an_l_bound od_l_have an_l_have od_l_all an_l_all od_l_call_piece an_l_call_piece od_l_go an_l_go od_l_piece an_l_piece od_l_closed an_l_closed od_l_body an_l_body od_l_hear an_l_hear od_l_program an_l_program od_l_pieces an_l_pieces od_l_parts an_l_parts od_l_right an_l_right od_l_named_sum an_l_named_sum od_l_turned an_l_turned od_law an_law : Option Addr} {sl_bodies_of sl_parts_of_keeper sl_all_parts sl_row_named sl_body_of sl_begun_with sl_pieces sl_l_deal sl_l_draw sl_l_words sl_l_heads sl_l_bound sl_l_have sl_l_all sl_l_call_piece sl_l_go sl_l_piece sl_l_closed sl_l_body sl_l_hear sl_l_program sl_l_pieces sl_l_parts sl_l_right sl_l_named_sum sl_l_turned sl_law : Array (Option Value)} {oc_bodies_of kV_bodies_of dc_bodies_of pm_bodies_of cd_bodies_of ct_bodies_of oc_parts_of_keeper kV_parts_of_keeper dc_parts_of_keeper pm_parts_of_keeper cd_parts_of_keeper ct_parts_of_keeper oc_all_parts kV_all_parts dc_all_parts pm_all_parts cd_all_parts ct_all_parts oc_row_named kV_row_named dc_row_named pm_row_named cd_row_named ct_row_named oc_body_of kV_body_of dc_body_of pm_body_of cd_body_of ct_body_of oc_begun_with kV_begun_with dc_begun_with pm_begun_with cd_begun_with ct_begun_with oc_pieces kV_pieces dc_pieces pm_pieces cd_pieces ct_pieces oc_l_deal kV_l_deal dc_l_deal pm_l_deal cd_l_deal ct_l_deal oc_l_draw kV_l_draw dc_l_draw pm_l_draw cd_l_draw ct_l_draw oc_l_words kV_l_words dc_l_words pm_l_words cd_l_words ct_l_words oc_l_heads kV_l_heads dc_l_heads pm_l_heads cd_l_heads ct_l_heads oc_l_bound kV_l_bound dc_l_bound pm_l_bound cd_l_bound ct_l_bound oc_l_have kV_l_have dc_l_have pm_l_have cd_l_have ct_l_have oc_l_all kV_l_all dc_l_all pm_l_all cd_l_all ct_l_all oc_l_call_piece kV_l_call_piece dc_l_call_piece pm_l_call_piece cd_l_call_piece ct_l_call_piece oc_l_go kV_l_go dc_l_go pm_l_go cd_l_go ct_l_go oc_l_piece kV_l_piece dc_l_piece pm_l_piece cd_l_piece ct_l_piece oc_l_closed kV_l_closed dc_l_closed pm_l_closed cd_l_closed ct_l_closed oc_l_body kV_l_body dc_l_body pm_l_body cd_l_body ct_l_body oc_l_hear kV_l_hear dc_l_hear pm_l_hear cd_l_hear ct_l_hear oc_l_program kV_l_program dc_l_program pm_l_program cd_l_program ct_l_program oc_l_pieces kV_l_pieces dc_l_pieces pm_l_pieces cd_l_pieces ct_l_pieces oc_l_parts kV_l_parts dc_l_parts pm_l_parts cd_l_parts ct_l_parts oc_l_right kV_l_right dc_l_right pm_l_right cd_l_right ct_l_right oc_l_named_sum kV_l_named_sum dc_l_named_sum pm_l_named_sum cd_l_named_sum ct_l_named_sum oc_l_turned kV_l_turned dc_l_turned pm_l_turned cd_l_turned ct_l_turned oc_law kV_law dc_law pm_law cd_law ct_law : Value}
    (a_bodies_of : PySem.W.nsIn K mainGlobals "bodies_of" = some (some (.ref f_bodies_of)))
    (l_bodies_of : K.lookup f_bodies_of = some ⟨oc_bodies_of, od_bodies_of, .func (PySem.W.fnOf "bodies_of" "bodies_of" (defArgs st_bodies_of) (defBody st_bodies_of) (defScope st_bodies_of) .none kV_bodies_of dc_bodies_of pm_bodies_of an_bodies_of cd_bodies_of ct_bodies_of), sl_bodies_of⟩)
    (c_bodies_of : PySem.W.codeIn K cd_bodies_of "bodies_of" = true)
    (k_bodies_of : PySem.W.keepIn K (.ref f_bodies_of) = true)
    (a_parts_of_keeper : PySem.W.nsIn K mainGlobals "parts_of_keeper" = some (some (.ref f_parts_of_keeper)))
    (l_parts_of_keeper : K.lookup f_parts_of_keeper = some ⟨oc_parts_of_keeper, od_parts_of_keeper, .func (PySem.W.fnOf "parts_of_keeper" "parts_of_keeper" (defArgs st_parts_of_keeper) (defBody st_parts_of_keeper) (defScope st_parts_of_keeper) .none kV_parts_of_keeper dc_parts_of_keeper pm_parts_of_keeper an_parts_of_keeper cd_parts_of_keeper ct_parts_of_keeper), sl_parts_of_keeper⟩)
    (c_parts_of_keeper : PySem.W.codeIn K cd_parts_of_keeper "parts_of_keeper" = true)
    (k_parts_of_keeper : PySem.W.keepIn K (.ref f_parts_of_keeper) = true)
    (a_all_parts : PySem.W.nsIn K mainGlobals "all_parts" = some (some (.ref f_all_parts)))
    (l_all_parts : K.lookup f_all_parts = some ⟨oc_all_parts, od_all_parts, .func (PySem.W.fnOf "all_parts" "all_parts" (defArgs st_all_parts) (defBody st_all_parts) (defScope st_all_parts) .none kV_all_parts dc_all_parts pm_all_parts an_all_parts cd_all_parts ct_all_parts), sl_all_parts⟩)
    (c_all_parts : PySem.W.codeIn K cd_all_parts "all_parts" = true)
    (k_all_parts : PySem.W.keepIn K (.ref f_all_parts) = true)
    (a_row_named : PySem.W.nsIn K mainGlobals "row_named" = some (some (.ref f_row_named)))
    (l_row_named : K.lookup f_row_named = some ⟨oc_row_named, od_row_named, .func (PySem.W.fnOf "row_named" "row_named" (defArgs st_row_named) (defBody st_row_named) (defScope st_row_named) .none kV_row_named dc_row_named pm_row_named an_row_named cd_row_named ct_row_named), sl_row_named⟩)
    (c_row_named : PySem.W.codeIn K cd_row_named "row_named" = true)
    (k_row_named : PySem.W.keepIn K (.ref f_row_named) = true)
    (a_body_of : PySem.W.nsIn K mainGlobals "body_of" = some (some (.ref f_body_of)))
    (l_body_of : K.lookup f_body_of = some ⟨oc_body_of, od_body_of, .func (PySem.W.fnOf "body_of" "body_of" (defArgs st_body_of) (defBody st_body_of) (defScope st_body_of) .none kV_body_of dc_body_of pm_body_of an_body_of cd_body_of ct_body_of), sl_body_of⟩)
    (c_body_of : PySem.W.codeIn K cd_body_of "body_of" = true)
    (k_body_of : PySem.W.keepIn K (.ref f_body_of) = true)
    (a_begun_with : PySem.W.nsIn K mainGlobals "begun_with" = some (some (.ref f_begun_with)))
    (l_begun_with : K.lookup f_begun_with = some ⟨oc_begun_with, od_begun_with, .func (PySem.W.fnOf "begun_with" "begun_with" (defArgs st_begun_with) (defBody st_begun_with) (defScope st_begun_with) .none kV_begun_with dc_begun_with pm_begun_with an_begun_with cd_begun_with ct_begun_with), sl_begun_with⟩)
    (c_begun_with : PySem.W.codeIn K cd_begun_with "begun_with" = true)
    (k_begun_with : PySem.W.keepIn K (.ref f_begun_with) = true)
    (a_pieces : PySem.W.nsIn K mainGlobals "pieces" = some (some (.ref f_pieces)))
    (l_pieces : K.lookup f_pieces = some ⟨oc_pieces, od_pieces, .func (PySem.W.fnOf "pieces" "pieces" (defArgs st_pieces) (defBody st_pieces) (defScope st_pieces) .none kV_pieces dc_pieces pm_pieces an_pieces cd_pieces ct_pieces), sl_pieces⟩)
    (c_pieces : PySem.W.codeIn K cd_pieces "pieces" = true)
    (k_pieces : PySem.W.keepIn K (.ref f_pieces) = true)
    (a_l_deal : PySem.W.nsIn K mainGlobals "_law_deal" = some (some (.ref f_l_deal)))
    (l_l_deal : K.lookup f_l_deal = some ⟨oc_l_deal, od_l_deal, .func (PySem.W.fnOf "_law_deal" "_law_deal" (defArgs st_l_deal) (defBody st_l_deal) (defScope st_l_deal) .none kV_l_deal dc_l_deal pm_l_deal an_l_deal cd_l_deal ct_l_deal), sl_l_deal⟩)
    (c_l_deal : PySem.W.codeIn K cd_l_deal "_law_deal" = true)
    (k_l_deal : PySem.W.keepIn K (.ref f_l_deal) = true)
    (a_l_draw : PySem.W.nsIn K mainGlobals "_law_draw" = some (some (.ref f_l_draw)))
    (l_l_draw : K.lookup f_l_draw = some ⟨oc_l_draw, od_l_draw, .func (PySem.W.fnOf "_law_draw" "_law_draw" (defArgs st_l_draw) (defBody st_l_draw) (defScope st_l_draw) .none kV_l_draw dc_l_draw pm_l_draw an_l_draw cd_l_draw ct_l_draw), sl_l_draw⟩)
    (c_l_draw : PySem.W.codeIn K cd_l_draw "_law_draw" = true)
    (k_l_draw : PySem.W.keepIn K (.ref f_l_draw) = true)
    (a_l_words : PySem.W.nsIn K mainGlobals "_law_words" = some (some (.ref f_l_words)))
    (l_l_words : K.lookup f_l_words = some ⟨oc_l_words, od_l_words, .func (PySem.W.fnOf "_law_words" "_law_words" (defArgs st_l_words) (defBody st_l_words) (defScope st_l_words) .none kV_l_words dc_l_words pm_l_words an_l_words cd_l_words ct_l_words), sl_l_words⟩)
    (c_l_words : PySem.W.codeIn K cd_l_words "_law_words" = true)
    (k_l_words : PySem.W.keepIn K (.ref f_l_words) = true)
    (a_l_heads : PySem.W.nsIn K mainGlobals "_law_heads" = some (some (.ref f_l_heads)))
    (l_l_heads : K.lookup f_l_heads = some ⟨oc_l_heads, od_l_heads, .func (PySem.W.fnOf "_law_heads" "_law_heads" (defArgs st_l_heads) (defBody st_l_heads) (defScope st_l_heads) .none kV_l_heads dc_l_heads pm_l_heads an_l_heads cd_l_heads ct_l_heads), sl_l_heads⟩)
    (c_l_heads : PySem.W.codeIn K cd_l_heads "_law_heads" = true)
    (k_l_heads : PySem.W.keepIn K (.ref f_l_heads) = true)
    (a_l_bound : PySem.W.nsIn K mainGlobals "_law_bound" = some (some (.ref f_l_bound)))
    (l_l_bound : K.lookup f_l_bound = some ⟨oc_l_bound, od_l_bound, .func (PySem.W.fnOf "_law_bound" "_law_bound" (defArgs st_l_bound) (defBody st_l_bound) (defScope st_l_bound) .none kV_l_bound dc_l_bound pm_l_bound an_l_bound cd_l_bound ct_l_bound), sl_l_bound⟩)
    (c_l_bound : PySem.W.codeIn K cd_l_bound "_law_bound" = true)
    (k_l_bound : PySem.W.keepIn K (.ref f_l_bound) = true)
    (a_l_have : PySem.W.nsIn K mainGlobals "_law_have" = some (some (.ref f_l_have)))
    (l_l_have : K.lookup f_l_have = some ⟨oc_l_have, od_l_have, .func (PySem.W.fnOf "_law_have" "_law_have" (defArgs st_l_have) (defBody st_l_have) (defScope st_l_have) .none kV_l_have dc_l_have pm_l_have an_l_have cd_l_have ct_l_have), sl_l_have⟩)
    (c_l_have : PySem.W.codeIn K cd_l_have "_law_have" = true)
    (k_l_have : PySem.W.keepIn K (.ref f_l_have) = true)
    (a_l_all : PySem.W.nsIn K mainGlobals "_law_all" = some (some (.ref f_l_all)))
    (l_l_all : K.lookup f_l_all = some ⟨oc_l_all, od_l_all, .func (PySem.W.fnOf "_law_all" "_law_all" (defArgs st_l_all) (defBody st_l_all) (defScope st_l_all) .none kV_l_all dc_l_all pm_l_all an_l_all cd_l_all ct_l_all), sl_l_all⟩)
    (c_l_all : PySem.W.codeIn K cd_l_all "_law_all" = true)
    (k_l_all : PySem.W.keepIn K (.ref f_l_all) = true)
    (a_l_call_piece : PySem.W.nsIn K mainGlobals "_law_call_piece" = some (some (.ref f_l_call_piece)))
    (l_l_call_piece : K.lookup f_l_call_piece = some ⟨oc_l_call_piece, od_l_call_piece, .func (PySem.W.fnOf "_law_call_piece" "_law_call_piece" (defArgs st_l_call_piece) (defBody st_l_call_piece) (defScope st_l_call_piece) .none kV_l_call_piece dc_l_call_piece pm_l_call_piece an_l_call_piece cd_l_call_piece ct_l_call_piece), sl_l_call_piece⟩)
    (c_l_call_piece : PySem.W.codeIn K cd_l_call_piece "_law_call_piece" = true)
    (k_l_call_piece : PySem.W.keepIn K (.ref f_l_call_piece) = true)
    (a_l_go : PySem.W.nsIn K mainGlobals "_law_go" = some (some (.ref f_l_go)))
    (l_l_go : K.lookup f_l_go = some ⟨oc_l_go, od_l_go, .func (PySem.W.fnOf "_law_go" "_law_go" (defArgs st_l_go) (defBody st_l_go) (defScope st_l_go) .none kV_l_go dc_l_go pm_l_go an_l_go cd_l_go ct_l_go), sl_l_go⟩)
    (c_l_go : PySem.W.codeIn K cd_l_go "_law_go" = true)
    (k_l_go : PySem.W.keepIn K (.ref f_l_go) = true)
    (a_l_piece : PySem.W.nsIn K mainGlobals "_law_piece" = some (some (.ref f_l_piece)))
    (l_l_piece : K.lookup f_l_piece = some ⟨oc_l_piece, od_l_piece, .func (PySem.W.fnOf "_law_piece" "_law_piece" (defArgs st_l_piece) (defBody st_l_piece) (defScope st_l_piece) .none kV_l_piece dc_l_piece pm_l_piece an_l_piece cd_l_piece ct_l_piece), sl_l_piece⟩)
    (c_l_piece : PySem.W.codeIn K cd_l_piece "_law_piece" = true)
    (k_l_piece : PySem.W.keepIn K (.ref f_l_piece) = true)
    (a_l_closed : PySem.W.nsIn K mainGlobals "_law_closed" = some (some (.ref f_l_closed)))
    (l_l_closed : K.lookup f_l_closed = some ⟨oc_l_closed, od_l_closed, .func (PySem.W.fnOf "_law_closed" "_law_closed" (defArgs st_l_closed) (defBody st_l_closed) (defScope st_l_closed) .none kV_l_closed dc_l_closed pm_l_closed an_l_closed cd_l_closed ct_l_closed), sl_l_closed⟩)
    (c_l_closed : PySem.W.codeIn K cd_l_closed "_law_closed" = true)
    (k_l_closed : PySem.W.keepIn K (.ref f_l_closed) = true)
    (a_l_body : PySem.W.nsIn K mainGlobals "_law_body" = some (some (.ref f_l_body)))
    (l_l_body : K.lookup f_l_body = some ⟨oc_l_body, od_l_body, .func (PySem.W.fnOf "_law_body" "_law_body" (defArgs st_l_body) (defBody st_l_body) (defScope st_l_body) .none kV_l_body dc_l_body pm_l_body an_l_body cd_l_body ct_l_body), sl_l_body⟩)
    (c_l_body : PySem.W.codeIn K cd_l_body "_law_body" = true)
    (k_l_body : PySem.W.keepIn K (.ref f_l_body) = true)
    (a_l_hear : PySem.W.nsIn K mainGlobals "_law_hear" = some (some (.ref f_l_hear)))
    (l_l_hear : K.lookup f_l_hear = some ⟨oc_l_hear, od_l_hear, .func (PySem.W.fnOf "_law_hear" "_law_hear" (defArgs st_l_hear) (defBody st_l_hear) (defScope st_l_hear) .none kV_l_hear dc_l_hear pm_l_hear an_l_hear cd_l_hear ct_l_hear), sl_l_hear⟩)
    (c_l_hear : PySem.W.codeIn K cd_l_hear "_law_hear" = true)
    (k_l_hear : PySem.W.keepIn K (.ref f_l_hear) = true)
    (a_l_program : PySem.W.nsIn K mainGlobals "_law_program" = some (some (.ref f_l_program)))
    (l_l_program : K.lookup f_l_program = some ⟨oc_l_program, od_l_program, .func (PySem.W.fnOf "_law_program" "_law_program" (defArgs st_l_program) (defBody st_l_program) (defScope st_l_program) .none kV_l_program dc_l_program pm_l_program an_l_program cd_l_program ct_l_program), sl_l_program⟩)
    (c_l_program : PySem.W.codeIn K cd_l_program "_law_program" = true)
    (k_l_program : PySem.W.keepIn K (.ref f_l_program) = true)
    (a_l_pieces : PySem.W.nsIn K mainGlobals "_law_pieces" = some (some (.ref f_l_pieces)))
    (l_l_pieces : K.lookup f_l_pieces = some ⟨oc_l_pieces, od_l_pieces, .func (PySem.W.fnOf "_law_pieces" "_law_pieces" (defArgs st_l_pieces) (defBody st_l_pieces) (defScope st_l_pieces) .none kV_l_pieces dc_l_pieces pm_l_pieces an_l_pieces cd_l_pieces ct_l_pieces), sl_l_pieces⟩)
    (c_l_pieces : PySem.W.codeIn K cd_l_pieces "_law_pieces" = true)
    (k_l_pieces : PySem.W.keepIn K (.ref f_l_pieces) = true)
    (a_l_parts : PySem.W.nsIn K mainGlobals "_law_parts" = some (some (.ref f_l_parts)))
    (l_l_parts : K.lookup f_l_parts = some ⟨oc_l_parts, od_l_parts, .func (PySem.W.fnOf "_law_parts" "_law_parts" (defArgs st_l_parts) (defBody st_l_parts) (defScope st_l_parts) .none kV_l_parts dc_l_parts pm_l_parts an_l_parts cd_l_parts ct_l_parts), sl_l_parts⟩)
    (c_l_parts : PySem.W.codeIn K cd_l_parts "_law_parts" = true)
    (k_l_parts : PySem.W.keepIn K (.ref f_l_parts) = true)
    (a_l_right : PySem.W.nsIn K mainGlobals "_law_right" = some (some (.ref f_l_right)))
    (l_l_right : K.lookup f_l_right = some ⟨oc_l_right, od_l_right, .func (PySem.W.fnOf "_law_right" "_law_right" (defArgs st_l_right) (defBody st_l_right) (defScope st_l_right) .none kV_l_right dc_l_right pm_l_right an_l_right cd_l_right ct_l_right), sl_l_right⟩)
    (c_l_right : PySem.W.codeIn K cd_l_right "_law_right" = true)
    (k_l_right : PySem.W.keepIn K (.ref f_l_right) = true)
    (a_l_named_sum : PySem.W.nsIn K mainGlobals "_law_named_sum" = some (some (.ref f_l_named_sum)))
    (l_l_named_sum : K.lookup f_l_named_sum = some ⟨oc_l_named_sum, od_l_named_sum, .func (PySem.W.fnOf "_law_named_sum" "_law_named_sum" (defArgs st_l_named_sum) (defBody st_l_named_sum) (defScope st_l_named_sum) .none kV_l_named_sum dc_l_named_sum pm_l_named_sum an_l_named_sum cd_l_named_sum ct_l_named_sum), sl_l_named_sum⟩)
    (c_l_named_sum : PySem.W.codeIn K cd_l_named_sum "_law_named_sum" = true)
    (k_l_named_sum : PySem.W.keepIn K (.ref f_l_named_sum) = true)
    (a_l_turned : PySem.W.nsIn K mainGlobals "_law_turned" = some (some (.ref f_l_turned)))
    (l_l_turned : K.lookup f_l_turned = some ⟨oc_l_turned, od_l_turned, .func (PySem.W.fnOf "_law_turned" "_law_turned" (defArgs st_l_turned) (defBody st_l_turned) (defScope st_l_turned) .none kV_l_turned dc_l_turned pm_l_turned an_l_turned cd_l_turned ct_l_turned), sl_l_turned⟩)
    (c_l_turned : PySem.W.codeIn K cd_l_turned "_law_turned" = true)
    (k_l_turned : PySem.W.keepIn K (.ref f_l_turned) = true)
    (a_law : PySem.W.nsIn K mainGlobals "law" = some (some (.ref f_law)))
    (l_law : K.lookup f_law = some ⟨oc_law, od_law, .func (PySem.W.fnOf "law" "law" (defArgs st_law) (defBody st_law) (defScope st_law) .none kV_law dc_law pm_law an_law cd_law ct_law), sl_law⟩)
    (c_law : PySem.W.codeIn K cd_law "law" = true)
    (k_law : PySem.W.keepIn K (.ref f_law) = true)
    (z_enumerate : PySem.W.nsIn K mainGlobals "enumerate" = some none)
    (z_int : PySem.W.nsIn K mainGlobals "int" = some none)
    (z_isinstance : PySem.W.nsIn K mainGlobals "isinstance" = some none)
    (z_len : PySem.W.nsIn K mainGlobals "len" = some none)
    (z_list : PySem.W.nsIn K mainGlobals "list" = some none)
    (z_max : PySem.W.nsIn K mainGlobals "max" = some none)
    (z_range : PySem.W.nsIn K mainGlobals "range" = some none)
    (z_reversed : PySem.W.nsIn K mainGlobals "reversed" = some none)
    (z_tuple : PySem.W.nsIn K mainGlobals "tuple" = some none)
    (z_zip : PySem.W.nsIn K mainGlobals "zip" = some none)
    : ∃ fd : FuncData, (∀ (s : Shared) (v : Value), BindsTo s fd ⟨[v], []⟩ [("_law_script", v)]) ∧ ∀ base : Heap, K.In base → base.Ns mainGlobals mg → FnOk l.prog w K mg base CX0 61 fa fd ["_law_script"] (spLaw K) := by
  have e := hfa.symm.trans (PySem.W.mg_of X G a_law)
  cases e
  have m_enumerate := PySem.W.mg_none_of X G z_enumerate
  have m_int := PySem.W.mg_none_of X G z_int
  have m_isinstance := PySem.W.mg_none_of X G z_isinstance
  have m_len := PySem.W.mg_none_of X G z_len
  have m_list := PySem.W.mg_none_of X G z_list
  have m_max := PySem.W.mg_none_of X G z_max
  have m_range := PySem.W.mg_none_of X G z_range
  have m_reversed := PySem.W.mg_none_of X G z_reversed
  have m_tuple := PySem.W.mg_none_of X G z_tuple
  have m_zip := PySem.W.mg_none_of X G z_zip
  have F_bodies_of := fun_mk (st := st_bodies_of) l_bodies_of c_bodies_of k_bodies_of
  have D_bodies_of : Fn K mg "bodies_of" st_bodies_of ["piece"] _ _ := ⟨PySem.W.mg_of X G a_bodies_of, k_bodies_of, F_bodies_of, F_bodies_of.binds (ps := ["piece"]) fun _ _ _ _ _ _ us hl => match us, hl with | [_], _ => rfl⟩
  have F_parts_of_keeper := fun_mk (st := st_parts_of_keeper) l_parts_of_keeper c_parts_of_keeper k_parts_of_keeper
  have D_parts_of_keeper : Fn K mg "parts_of_keeper" st_parts_of_keeper ["keeper"] _ _ := ⟨PySem.W.mg_of X G a_parts_of_keeper, k_parts_of_keeper, F_parts_of_keeper, F_parts_of_keeper.binds (ps := ["keeper"]) fun _ _ _ _ _ _ us hl => match us, hl with | [_], _ => rfl⟩
  have F_all_parts := fun_mk (st := st_all_parts) l_all_parts c_all_parts k_all_parts
  have D_all_parts : Fn K mg "all_parts" st_all_parts ["program"] _ _ := ⟨PySem.W.mg_of X G a_all_parts, k_all_parts, F_all_parts, F_all_parts.binds (ps := ["program"]) fun _ _ _ _ _ _ us hl => match us, hl with | [_], _ => rfl⟩
  have F_row_named := fun_mk (st := st_row_named) l_row_named c_row_named k_row_named
  have D_row_named : Fn K mg "row_named" st_row_named ["rows", "name"] _ _ := ⟨PySem.W.mg_of X G a_row_named, k_row_named, F_row_named, F_row_named.binds (ps := ["rows", "name"]) fun _ _ _ _ _ _ us hl => match us, hl with | [_, _], _ => rfl⟩
  have F_body_of := fun_mk (st := st_body_of) l_body_of c_body_of k_body_of
  have D_body_of : Fn K mg "body_of" st_body_of ["program", "part"] _ _ := ⟨PySem.W.mg_of X G a_body_of, k_body_of, F_body_of, F_body_of.binds (ps := ["program", "part"]) fun _ _ _ _ _ _ us hl => match us, hl with | [_, _], _ => rfl⟩
  have F_begun_with := fun_mk (st := st_begun_with) l_begun_with c_begun_with k_begun_with
  have D_begun_with : Fn K mg "begun_with" st_begun_with ["program", "part"] _ _ := ⟨PySem.W.mg_of X G a_begun_with, k_begun_with, F_begun_with, F_begun_with.binds (ps := ["program", "part"]) fun _ _ _ _ _ _ us hl => match us, hl with | [_, _], _ => rfl⟩
  have F_pieces := fun_mk (st := st_pieces) l_pieces c_pieces k_pieces
  have D_pieces : Fn K mg "pieces" st_pieces ["body"] _ _ := ⟨PySem.W.mg_of X G a_pieces, k_pieces, F_pieces, F_pieces.binds (ps := ["body"]) fun _ _ _ _ _ _ us hl => match us, hl with | [_], _ => rfl⟩
  have F_l_deal := fun_mk (st := st_l_deal) l_l_deal c_l_deal k_l_deal
  have D_l_deal : Fn K mg "_law_deal" st_l_deal ["_law_script", "_law_base"] _ _ := ⟨PySem.W.mg_of X G a_l_deal, k_l_deal, F_l_deal, F_l_deal.binds (ps := ["_law_script", "_law_base"]) fun _ _ _ _ _ _ us hl => match us, hl with | [_, _], _ => rfl⟩
  have F_l_draw := fun_mk (st := st_l_draw) l_l_draw c_l_draw k_l_draw
  have D_l_draw : Fn K mg "_law_draw" st_l_draw ["_law_deal_here", "_law_many"] _ _ := ⟨PySem.W.mg_of X G a_l_draw, k_l_draw, F_l_draw, F_l_draw.binds (ps := ["_law_deal_here", "_law_many"]) fun _ _ _ _ _ _ us hl => match us, hl with | [_, _], _ => rfl⟩
  have F_l_words := fun_mk (st := st_l_words) l_l_words c_l_words k_l_words
  have D_l_words : Fn K mg "_law_words" st_l_words ["_law_deal_here", "_law_many"] _ _ := ⟨PySem.W.mg_of X G a_l_words, k_l_words, F_l_words, F_l_words.binds (ps := ["_law_deal_here", "_law_many"]) fun _ _ _ _ _ _ us hl => match us, hl with | [_, _], _ => rfl⟩
  have F_l_heads := fun_mk (st := st_l_heads) l_l_heads c_l_heads k_l_heads
  have D_l_heads : Fn K mg "_law_heads" st_l_heads ["_law_deal_here"] _ _ := ⟨PySem.W.mg_of X G a_l_heads, k_l_heads, F_l_heads, F_l_heads.binds (ps := ["_law_deal_here"]) fun _ _ _ _ _ _ us hl => match us, hl with | [_], _ => rfl⟩
  have F_l_bound := fun_mk (st := st_l_bound) l_l_bound c_l_bound k_l_bound
  have D_l_bound : Fn K mg "_law_bound" st_l_bound ["_law_world", "_law_env", "_law_kind"] _ _ := ⟨PySem.W.mg_of X G a_l_bound, k_l_bound, F_l_bound, F_l_bound.binds (ps := ["_law_world", "_law_env", "_law_kind"]) fun _ _ _ _ _ _ us hl => match us, hl with | [_, _, _], _ => rfl⟩
  have F_l_have := fun_mk (st := st_l_have) l_l_have c_l_have k_l_have
  have D_l_have : Fn K mg "_law_have" st_l_have ["_law_deal_here", "_law_world", "_law_env", "_law_kind", "_law_heads_here"] _ _ := ⟨PySem.W.mg_of X G a_l_have, k_l_have, F_l_have, F_l_have.binds (ps := ["_law_deal_here", "_law_world", "_law_env", "_law_kind", "_law_heads_here"]) fun _ _ _ _ _ _ us hl => match us, hl with | [_, _, _, _, _], _ => rfl⟩
  have F_l_all := fun_mk (st := st_l_all) l_l_all c_l_all k_l_all
  have D_l_all : Fn K mg "_law_all" st_l_all ["_law_deal_here", "_law_world", "_law_env", "_law_kinds", "_law_heads_here"] _ _ := ⟨PySem.W.mg_of X G a_l_all, k_l_all, F_l_all, F_l_all.binds (ps := ["_law_deal_here", "_law_world", "_law_env", "_law_kinds", "_law_heads_here"]) fun _ _ _ _ _ _ us hl => match us, hl with | [_, _, _, _, _], _ => rfl⟩
  have F_l_call_piece := fun_mk (st := st_l_call_piece) l_l_call_piece c_l_call_piece k_l_call_piece
  have D_l_call_piece : Fn K mg "_law_call_piece" st_l_call_piece ["_law_deal_here", "_law_world", "_law_env", "_law_heads_here", "_law_later"] _ _ := ⟨PySem.W.mg_of X G a_l_call_piece, k_l_call_piece, F_l_call_piece, F_l_call_piece.binds (ps := ["_law_deal_here", "_law_world", "_law_env", "_law_heads_here", "_law_later"]) fun _ _ _ _ _ _ us hl => match us, hl with | [_, _, _, _, _], _ => rfl⟩
  have F_l_go := fun_mk (st := st_l_go) l_l_go c_l_go k_l_go
  have D_l_go : Fn K mg "_law_go" st_l_go ["_law_deal_here", "_law_world", "_law_env", "_law_heads_here", "_law_h", "_law_kind"] _ _ := ⟨PySem.W.mg_of X G a_l_go, k_l_go, F_l_go, F_l_go.binds (ps := ["_law_deal_here", "_law_world", "_law_env", "_law_heads_here", "_law_h", "_law_kind"]) fun _ _ _ _ _ _ us hl => match us, hl with | [_, _, _, _, _, _], _ => rfl⟩
  have F_l_piece := fun_mk (st := st_l_piece) l_l_piece c_l_piece k_l_piece
  have D_l_piece : Fn K mg "_law_piece" st_l_piece ["_law_deal_here", "_law_world", "_law_env", "_law_heads_here", "_law_later"] _ _ := ⟨PySem.W.mg_of X G a_l_piece, k_l_piece, F_l_piece, F_l_piece.binds (ps := ["_law_deal_here", "_law_world", "_law_env", "_law_heads_here", "_law_later"]) fun _ _ _ _ _ _ us hl => match us, hl with | [_, _, _, _, _], _ => rfl⟩
  have F_l_closed := fun_mk (st := st_l_closed) l_l_closed c_l_closed k_l_closed
  have D_l_closed : Fn K mg "_law_closed" st_l_closed ["_law_heads_here", "_law_body_here"] _ _ := ⟨PySem.W.mg_of X G a_l_closed, k_l_closed, F_l_closed, F_l_closed.binds (ps := ["_law_heads_here", "_law_body_here"]) fun _ _ _ _ _ _ us hl => match us, hl with | [_, _], _ => rfl⟩
  have F_l_body := fun_mk (st := st_l_body) l_l_body c_l_body k_l_body
  have D_l_body : Fn K mg "_law_body" st_l_body ["_law_deal_here", "_law_world", "_law_env", "_law_due", "_law_later", "_law_deep"] _ _ := ⟨PySem.W.mg_of X G a_l_body, k_l_body, F_l_body, F_l_body.binds (ps := ["_law_deal_here", "_law_world", "_law_env", "_law_due", "_law_later", "_law_deep"]) fun _ _ _ _ _ _ us hl => match us, hl with | [_, _, _, _, _, _], _ => rfl⟩
  have F_l_hear := fun_mk (st := st_l_hear) l_l_hear c_l_hear k_l_hear
  have D_l_hear : Fn K mg "_law_hear" st_l_hear ["_law_deal_here", "_law_world", "_law_keeper", "_law_ask"] _ _ := ⟨PySem.W.mg_of X G a_l_hear, k_l_hear, F_l_hear, F_l_hear.binds (ps := ["_law_deal_here", "_law_world", "_law_keeper", "_law_ask"]) fun _ _ _ _ _ _ us hl => match us, hl with | [_, _, _, _], _ => rfl⟩
  have F_l_program := fun_mk (st := st_l_program) l_l_program c_l_program k_l_program
  have D_l_program : Fn K mg "_law_program" st_l_program ["_law_deal_here"] _ _ := ⟨PySem.W.mg_of X G a_l_program, k_l_program, F_l_program, F_l_program.binds (ps := ["_law_deal_here"]) fun _ _ _ _ _ _ us hl => match us, hl with | [_], _ => rfl⟩
  have F_l_pieces := fun_mk (st := st_l_pieces) l_l_pieces c_l_pieces k_l_pieces
  have D_l_pieces : Fn K mg "_law_pieces" st_l_pieces ["_law_body_here"] _ _ := ⟨PySem.W.mg_of X G a_l_pieces, k_l_pieces, F_l_pieces, F_l_pieces.binds (ps := ["_law_body_here"]) fun _ _ _ _ _ _ us hl => match us, hl with | [_], _ => rfl⟩
  have F_l_parts := fun_mk (st := st_l_parts) l_l_parts c_l_parts k_l_parts
  have D_l_parts : Fn K mg "_law_parts" st_l_parts ["_law_program_here"] _ _ := ⟨PySem.W.mg_of X G a_l_parts, k_l_parts, F_l_parts, F_l_parts.binds (ps := ["_law_program_here"]) fun _ _ _ _ _ _ us hl => match us, hl with | [_], _ => rfl⟩
  have F_l_right := fun_mk (st := st_l_right) l_l_right c_l_right k_l_right
  have D_l_right : Fn K mg "_law_right" st_l_right ["_law_program_here", "_law_due"] _ _ := ⟨PySem.W.mg_of X G a_l_right, k_l_right, F_l_right, F_l_right.binds (ps := ["_law_program_here", "_law_due"]) fun _ _ _ _ _ _ us hl => match us, hl with | [_, _], _ => rfl⟩
  have F_l_named_sum := fun_mk (st := st_l_named_sum) l_l_named_sum c_l_named_sum k_l_named_sum
  have D_l_named_sum : Fn K mg "_law_named_sum" st_l_named_sum ["_law_deal_here"] _ _ := ⟨PySem.W.mg_of X G a_l_named_sum, k_l_named_sum, F_l_named_sum, F_l_named_sum.binds (ps := ["_law_deal_here"]) fun _ _ _ _ _ _ us hl => match us, hl with | [_], _ => rfl⟩
  have F_l_turned := fun_mk (st := st_l_turned) l_l_turned c_l_turned k_l_turned
  have D_l_turned : Fn K mg "_law_turned" st_l_turned ["_law_program_here"] _ _ := ⟨PySem.W.mg_of X G a_l_turned, k_l_turned, F_l_turned, F_l_turned.binds (ps := ["_law_program_here"]) fun _ _ _ _ _ _ us hl => match us, hl with | [_], _ => rfl⟩
  have F_law := fun_mk (st := st_law) l_law c_law k_law
  have D_law : Fn K mg "law" st_law ["_law_script"] _ _ := ⟨PySem.W.mg_of X G a_law, k_law, F_law, F_law.binds (ps := ["_law_script"]) fun _ _ _ _ _ _ us hl => match us, hl with | [_], _ => rfl⟩
  have TD : BltD mg := ⟨m_len, m_list, m_reversed, m_max⟩
  have TB : BltB mg := ⟨m_len, m_range, m_int, m_tuple, m_list, m_max, m_enumerate, m_zip, m_reversed, m_isinstance⟩
  have TC : BltCl mg := ⟨m_reversed⟩
  have TG : BltBg mg := ⟨m_list⟩
  refine ⟨_, ?_, fun base _ _ => law_ok D_bodies_of D_parts_of_keeper D_all_parts D_row_named D_body_of D_begun_with D_pieces D_l_deal D_l_draw D_l_words D_l_heads D_l_bound D_l_have D_l_all D_l_call_piece D_l_go D_l_piece D_l_closed D_l_body D_l_hear D_l_program D_l_pieces D_l_parts D_l_right D_l_named_sum D_l_turned D_law TD TB TC TG⟩
  exact fun s v => .of_eq rfl
theorem walk {l : PySem.W.OpenLaw} {q : Program} {loose : List Str} {XP : (Str → Option Value) → Heap → Prop} {YP : World → Heap → Prop} {d : DefRec} {K : Params → PySem.W.Frag} (hn : l.most = some 63) (hdf : d.params.defaults = [])
    (hY : ∀ (w : World) (h : Heap), YP w h → (K w.params).In h)
    (F : ∀ (w : World) (mg : Str → Option Value) (fa : Addr) (h : Heap), (K w.params).In h → h.Ns mainGlobals mg → mg d.name = some (.ref fa) →
      ∃ fd : FuncData, (∀ (s : Shared) (u : Value), BindsTo s fd ⟨[u], []⟩ [("_law_script", u)]) ∧ ∀ base : Heap, (K w.params).In base → base.Ns mainGlobals mg → FnOk l.prog w (K w.params) mg base CX0 61 fa fd ["_law_script"] (spLaw (K w.params))) :
    PySem.W.WalkO q loose XP YP l.row.toRowW d [] (fun f vs => PySem.call f vs) :=
  L2.walk_of (n := 63) (k := 61) (x := "_law_script") (CX := fun _ => CX0) (sp := fun w => spLaw (K w.params)) hn (by decide) hdf ⟨rfl, by decide, by decide⟩ hY F (fun _ _ a ns hl _ hS => ⟨a, ns, rfl, hS, hl, fun _ => rfl⟩) fun _ _ _ _ _ z => z
end Ak
open PySem PySem.W PyProof.Rows
set_option maxRecDepth 100000 in
set_option maxHeartbeats 0 in
theorem PySem.Challenge.cw_askladder_k10_parts_and_pieces_holds : PySem.Challenge.rw_askladder_k10_parts_and_pieces.Holds := by
  w_on; o_law; k_head; (case hw => w_witness2)
  k_fill
  refine Ak.walk (l := PySem.Challenge.rw_askladder_k10_parts_and_pieces) rfl rfl (fun w h Y => PySem.W.kIn_of Y) ?F
  case F =>
    intro w mg fa h KX G hmg
    refine' Ak.all_mk KX G hmg ?a_bodies_of ?l_bodies_of ?c_bodies_of ?k_bodies_of ?a_parts_of_keeper ?l_parts_of_keeper ?c_parts_of_keeper ?k_parts_of_keeper ?a_all_parts ?l_all_parts ?c_all_parts ?k_all_parts ?a_row_named ?l_row_named ?c_row_named ?k_row_named ?a_body_of ?l_body_of ?c_body_of ?k_body_of ?a_begun_with ?l_begun_with ?c_begun_with ?k_begun_with ?a_pieces ?l_pieces ?c_pieces ?k_pieces ?a_l_deal ?l_l_deal ?c_l_deal ?k_l_deal ?a_l_draw ?l_l_draw ?c_l_draw ?k_l_draw ?a_l_words ?l_l_words ?c_l_words ?k_l_words ?a_l_heads ?l_l_heads ?c_l_heads ?k_l_heads ?a_l_bound ?l_l_bound ?c_l_bound ?k_l_bound ?a_l_have ?l_l_have ?c_l_have ?k_l_have ?a_l_all ?l_l_all ?c_l_all ?k_l_all ?a_l_call_piece ?l_l_call_piece ?c_l_call_piece ?k_l_call_piece ?a_l_go ?l_l_go ?c_l_go ?k_l_go ?a_l_piece ?l_l_piece ?c_l_piece ?k_l_piece ?a_l_closed ?l_l_closed ?c_l_closed ?k_l_closed ?a_l_body ?l_l_body ?c_l_body ?k_l_body ?a_l_hear ?l_l_hear ?c_l_hear ?k_l_hear ?a_l_program ?l_l_program ?c_l_program ?k_l_program ?a_l_pieces ?l_l_pieces ?c_l_pieces ?k_l_pieces ?a_l_parts ?l_l_parts ?c_l_parts ?k_l_parts ?a_l_right ?l_l_right ?c_l_right ?k_l_right ?a_l_named_sum ?l_l_named_sum ?c_l_named_sum ?k_l_named_sum ?a_l_turned ?l_l_turned ?c_l_turned ?k_l_turned ?a_law ?l_law ?c_law ?k_law ?z_enumerate ?z_int ?z_isinstance ?z_len ?z_list ?z_max ?z_range ?z_reversed ?z_tuple ?z_zip
    (case a_bodies_of => k_is)
    (case l_bodies_of => k_is)
    (case c_bodies_of => k_is)
    (case k_bodies_of => k_is)
    (case a_parts_of_keeper => k_is)
    (case l_parts_of_keeper => k_is)
    (case c_parts_of_keeper => k_is)
    (case k_parts_of_keeper => k_is)
    (case a_all_parts => k_is)
    (case l_all_parts => k_is)
    (case c_all_parts => k_is)
    (case k_all_parts => k_is)
    (case a_row_named => k_is)
    (case l_row_named => k_is)
    (case c_row_named => k_is)
    (case k_row_named => k_is)
    (case a_body_of => k_is)
    (case l_body_of => k_is)
    (case c_body_of => k_is)
    (case k_body_of => k_is)
    (case a_begun_with => k_is)
    (case l_begun_with => k_is)
    (case c_begun_with => k_is)
    (case k_begun_with => k_is)
    (case a_pieces => k_is)
    (case l_pieces => k_is)
    (case c_pieces => k_is)
    (case k_pieces => k_is)
    (case a_l_deal => k_is)
    (case l_l_deal => k_is)
    (case c_l_deal => k_is)
    (case k_l_deal => k_is)
    (case a_l_draw => k_is)
    (case l_l_draw => k_is)
    (case c_l_draw => k_is)
    (case k_l_draw => k_is)
    (case a_l_words => k_is)
    (case l_l_words => k_is)
    (case c_l_words => k_is)
    (case k_l_words => k_is)
    (case a_l_heads => k_is)
    (case l_l_heads => k_is)
    (case c_l_heads => k_is)
    (case k_l_heads => k_is)
    (case a_l_bound => k_is)
    (case l_l_bound => k_is)
    (case c_l_bound => k_is)
    (case k_l_bound => k_is)
    (case a_l_have => k_is)
    (case l_l_have => k_is)
    (case c_l_have => k_is)
    (case k_l_have => k_is)
    (case a_l_all => k_is)
    (case l_l_all => k_is)
    (case c_l_all => k_is)
    (case k_l_all => k_is)
    (case a_l_call_piece => k_is)
    (case l_l_call_piece => k_is)
    (case c_l_call_piece => k_is)
    (case k_l_call_piece => k_is)
    (case a_l_go => k_is)
    (case l_l_go => k_is)
    (case c_l_go => k_is)
    (case k_l_go => k_is)
    (case a_l_piece => k_is)
    (case l_l_piece => k_is)
    (case c_l_piece => k_is)
    (case k_l_piece => k_is)
    (case a_l_closed => k_is)
    (case l_l_closed => k_is)
    (case c_l_closed => k_is)
    (case k_l_closed => k_is)
    (case a_l_body => k_is)
    (case l_l_body => k_is)
    (case c_l_body => k_is)
    (case k_l_body => k_is)
    (case a_l_hear => k_is)
    (case l_l_hear => k_is)
    (case c_l_hear => k_is)
    (case k_l_hear => k_is)
    (case a_l_program => k_is)
    (case l_l_program => k_is)
    (case c_l_program => k_is)
    (case k_l_program => k_is)
    (case a_l_pieces => k_is)
    (case l_l_pieces => k_is)
    (case c_l_pieces => k_is)
    (case k_l_pieces => k_is)
    (case a_l_parts => k_is)
    (case l_l_parts => k_is)
    (case c_l_parts => k_is)
    (case k_l_parts => k_is)
    (case a_l_right => k_is)
    (case l_l_right => k_is)
    (case c_l_right => k_is)
    (case k_l_right => k_is)
    (case a_l_named_sum => k_is)
    (case l_l_named_sum => k_is)
    (case c_l_named_sum => k_is)
    (case k_l_named_sum => k_is)
    (case a_l_turned => k_is)
    (case l_l_turned => k_is)
    (case c_l_turned => k_is)
    (case k_l_turned => k_is)
    (case a_law => k_is)
    (case l_law => k_is)
    (case c_law => k_is)
    (case k_law => k_is)
    (case z_enumerate => k_is)
    (case z_int => k_is)
    (case z_isinstance => k_is)
    (case z_len => k_is)
    (case z_list => k_is)
    (case z_max => k_is)
    (case z_range => k_is)
    (case z_reversed => k_is)
    (case z_tuple => k_is)
    (case z_zip => k_is)
#print axioms PySem.Challenge.cw_askladder_k10_parts_and_pieces_holds
