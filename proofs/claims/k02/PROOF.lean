import PyProof.Rows.All
import Wide.All
import OpenK.AllK
import Wide.FinOn
import HandS.Base
import HandS.Call
import HandS.List
import HandS.Comp
import HandS.Ends
import HandS.Words
import HandS.WordsList
import HandS.Property
import HandS.IsInst
import HandS.TupSets
import HandS.Conv
import HandS.TupAny
import HandS.Wide
import HandS.Iter
import HandS.Zip
import HandS.Deep
import HandS.Codes
import KE.GoesEnum
import HandS.Dict
import HandS.DictComp
import HandS.DictTup
import KE.KDictPairs
import KE.KDictCopyH
import HandS.NoneIn
import KE.KEqDict
import HandS.Style
import HandS.OwnEq
import HandS.OwnIter
import HandS.IterVal
import HandS.DictSub
import KE.KStateDown
import HandS.More
import HandS.WordsExc
import HandS.Defaults
import HandS.Head0
import HandS.Head1
import HandS.Head2
import HandS.HeadEnd
import HandS.HeadHook1
import HandS.HeadHook2
import HandS.HeadNt
import PySem.Challenge.RW_coolway_k02_whole_sure
section
set_option Elab.async false
set_option linter.all false
set_option maxRecDepth 100000
/-! The data layer: what a def of the program does, said of plain data; the heap is kept out of sight. -/
namespace DL
open PySem PySem.Spec PyProof.Rows L2

/-! ### data -/
/-- ints as a key -/
def ik (ns : List Int) : List L2.Key := ns.map Sum.inl
inductive D where
  | non | bl (b : Bool) | int (i : Int) | str (x : Str) | lst (ds : List D) | tup (ds : List D) | obj (C : Addr) (fs : List (Str × D)) | ctp (ds : List D) | dic (kvs : List (List Int × D)) | rls (ds : List D)
mutual
/-- v, read in the heap B, is the data d -/
inductive Rep (K : PySem.W.Frag) (B : Hp) : V → D → Prop
  | non : Rep K B .non .non
  | bl (b : Bool) : Rep K B (.bl b) (.bl b)
  | int (i : Int) : Rep K B (.int i) (.int i)
  | str (x : Str) : Rep K B (.str x) (.str x)
  | lst {a : Addr} {xs : List V} {ds : List D} : SqL K B a xs → RepAll K B xs ds → Rep K B (.ref a) (.lst ds)
  | tup {a : Addr} {xs : List V} {ds : List D} : B a = some (.tup xs) → RepAll K B xs ds → Rep K B (.ref a) (.tup ds)
  /-- a tuple of the written part -/
  | ctp {a : Addr} {xs : List V} {ds : List D} : SqT K B a xs → RepAll K B xs ds → Rep K B (.ref a) (.ctp ds)
  /-- a dict with tuples as keys, locked or not -/
  | dic {a : Addr} {kvs : List (List L2.Key × V)} {ds : List (List Int × D)} : Rd B a (.dT kvs) → RepKv K B kvs ds → Rep K B (.ref a) (.dic ds)
  /-- a list that lies in the heap as it was made -/
  | rls {a : Addr} {xs : List V} {ds : List D} : B a = some (.lst xs) → RepAll K B xs ds → Rep K B (.ref a) (.rls ds)
  | obj {a C dx : Addr} {fs : List (Str × V)} {gs : List (Str × D)} : B a = some (.ins C dx fs) → RepFs K B fs gs → Rep K B (.ref a) (.obj C gs)
inductive RepAll (K : PySem.W.Frag) (B : Hp) : List V → List D → Prop
  | nil : RepAll K B [] []
  | cons {v : V} {vs : List V} {d : D} {ds : List D} : Rep K B v d → RepAll K B vs ds → RepAll K B (v :: vs) (d :: ds)
inductive RepFs (K : PySem.W.Frag) (B : Hp) : List (Str × V) → List (Str × D) → Prop
  | nil : RepFs K B [] []
  | cons {f : Str} {v : V} {vs : List (Str × V)} {d : D} {ds : List (Str × D)} : Rep K B v d → RepFs K B vs ds → RepFs K B ((f, v) :: vs) ((f, d) :: ds)
inductive RepKv (K : PySem.W.Frag) (B : Hp) : List (List L2.Key × V) → List (List Int × D) → Prop
  | nil : RepKv K B [] []
  | cons {f : List Int} {v : V} {vs : List (List L2.Key × V)} {d : D} {ds : List (List Int × D)} : Rep K B v d → RepKv K B vs ds → RepKv K B ((ik f, v) :: vs) ((f, d) :: ds)
end
theorem sameRd {H H' : Hp} {a : Addr} {u : HO} (e : Same H H') (h : Rd H a u) : Rd H' a u := by
  rcases h with h | ⟨o, h⟩
  · exact .inl (e _ _ h)
  · exact .inr ⟨o, e _ _ h⟩
theorem sameT {K : PySem.W.Frag} {H H' : Hp} {a : Addr} {xs : List V} (e : Same H H') (h : SqT K H a xs) : SqT K H' a xs := by
  rcases h with (h | ⟨o, h⟩) | h
  · exact .inl (.inl (e _ _ h))
  · exact .inl (.inr ⟨o, e _ _ h⟩)
  · exact .inr h
section
variable {K : PySem.W.Frag} {B B' : Hp}
mutual
theorem Rep.mono (e : Same B B') : ∀ (d : D) {v : V}, Rep K B v d → Rep K B' v d
  | .non, _, h => by cases h; exact .non
  | .bl b, _, h => by cases h; exact .bl b
  | .int i, _, h => by cases h; exact .int i
  | .str x, _, h => by cases h; exact .str x
  | .lst ds, _, h => by
    cases h with
    | lst s r => exact .lst (e.seq s) (RepAll.mono e ds r)
  | .tup ds, _, h => by
    cases h with
    | tup s r => exact .tup (e _ _ s) (RepAll.mono e ds r)
  | .ctp ds, _, h => by
    cases h with
    | ctp s r => exact .ctp (sameT e s) (RepAll.mono e ds r)
  | .dic ds, _, h => by
    cases h with
    | dic s r => exact .dic (sameRd e s) (RepKv.mono e ds r)
  | .rls ds, _, h => by
    cases h with
    | rls s r => exact .rls (e _ _ s) (RepAll.mono e ds r)
  | .obj C gs, _, h => by
    cases h with
    | obj s r => exact .obj (e _ _ s) (RepFs.mono e gs r)
theorem RepAll.mono (e : Same B B') : ∀ (ds : List D) {vs : List V}, RepAll K B vs ds → RepAll K B' vs ds
  | [], _, h => by cases h; exact .nil
  | d :: ds, _, h => by
    cases h with
    | cons h1 h2 => exact .cons (Rep.mono e d h1) (RepAll.mono e ds h2)
theorem RepFs.mono (e : Same B B') : ∀ (ds : List (Str × D)) {vs : List (Str × V)}, RepFs K B vs ds → RepFs K B' vs ds
  | [], _, h => by cases h; exact .nil
  | (f, d) :: ds, _, h => by
    cases h with
    | cons h1 h2 => exact .cons (Rep.mono e d h1) (RepFs.mono e ds h2)
theorem RepKv.mono (e : Same B B') : ∀ (ds : List (List Int × D)) {vs : List (List L2.Key × V)}, RepKv K B vs ds → RepKv K B' vs ds
  | [], _, h => by cases h; exact .nil
  | (f, d) :: ds, _, h => by
    cases h with
    | cons h1 h2 => exact .cons (Rep.mono e d h1) (RepKv.mono e ds h2)
end
theorem RepAll.len : ∀ {ds : List D} {vs : List V}, RepAll K B vs ds → vs.length = ds.length
  | [], _, h => by cases h; rfl
  | d :: ds, _, h => by
    cases h with
    | cons h1 h2 => rw [List.length_cons, List.length_cons, RepAll.len h2]
theorem RepAll.get : ∀ {ds : List D} {vs : List V} {i : Nat} {d : D}, RepAll K B vs ds → ds[i]? = some d → ∃ v, vs[i]? = some v ∧ Rep K B v d
  | [], _, _, _, _, e => by simp at e
  | d :: ds, _, 0, x, h, e => by
    cases h with
    | cons h1 h2 =>
      rename_i v vs
      have e' : d = x := Option.some.inj e
      exact ⟨v, rfl, e' ▸ h1⟩
  | d :: ds, _, i + 1, x, h, e => by
    cases h with
    | cons h1 h2 =>
      obtain ⟨v, a, b⟩ := RepAll.get (i := i) h2 (by simpa using e)
      exact ⟨v, by simpa using a, b⟩
theorem RepAll.get' : ∀ {ds : List D} {vs : List V} {i : Nat} {v : V}, RepAll K B vs ds → vs[i]? = some v → ∃ d, ds[i]? = some d ∧ Rep K B v d
  | [], _, _, _, h, e => by cases h; simp at e
  | d :: ds, _, 0, x, h, e => by
    cases h with
    | cons h1 h2 =>
      rename_i v vs
      have e' : v = x := Option.some.inj e
      exact ⟨d, rfl, e' ▸ h1⟩
  | d :: ds, _, i + 1, x, h, e => by
    cases h with
    | cons h1 h2 =>
      obtain ⟨v, a, b⟩ := RepAll.get' (i := i) h2 (by simpa using e)
      exact ⟨v, by simpa using a, b⟩
theorem RepAll.append : ∀ {ds es : List D} {vs us : List V}, RepAll K B vs ds → RepAll K B us es → RepAll K B (vs ++ us) (ds ++ es)
  | [], _, _, _, h, g => by cases h; exact g
  | d :: ds, _, _, _, h, g => by
    cases h with
    | cons h1 h2 => exact .cons h1 (RepAll.append h2 g)
theorem RepAll.drop : ∀ (n : Nat) {ds : List D} {vs : List V}, RepAll K B vs ds → RepAll K B (vs.drop n) (ds.drop n)
  | 0, _, _, h => h
  | n + 1, [], _, h => by cases h; exact .nil
  | n + 1, d :: ds, _, h => by
    cases h with
    | cons h1 h2 => exact RepAll.drop n h2
theorem RepAll.take : ∀ (n : Nat) {ds : List D} {vs : List V}, RepAll K B vs ds → RepAll K B (vs.take n) (ds.take n)
  | 0, _, _, h => .nil
  | n + 1, [], _, h => by cases h; exact .nil
  | n + 1, d :: ds, _, h => by
    cases h with
    | cons h1 h2 => exact .cons h1 (RepAll.take n h2)
theorem RepAll.set {v : V} {d : D} (r : Rep K B v d) : ∀ (n : Nat) {ds : List D} {vs : List V}, RepAll K B vs ds → RepAll K B (vs.set n v) (ds.set n d)
  | _, [], _, h => by cases h; exact .nil
  | 0, d :: ds, _, h => by
    cases h with
    | cons h1 h2 => exact .cons r h2
  | n + 1, d :: ds, _, h => by
    cases h with
    | cons h1 h2 => exact .cons h1 (RepAll.set r n h2)
theorem RepAll.ints : ∀ {ns : List Int} {vs : List V}, RepAll K B vs (ns.map D.int) → vs = ns.map V.int
  | [], _, h => by cases h; rfl
  | n :: ns, _, h => by
    cases h with
    | cons h1 h2 =>
      cases h1
      rw [RepAll.ints h2]
      rfl
theorem RepAll.ofInts : ∀ (ns : List Int), RepAll K B (ns.map V.int) (ns.map D.int)
  | [] => .nil
  | n :: ns => .cons (.int n) (RepAll.ofInts ns)
theorem RepAll.bls : ∀ {ns : List Bool} {vs : List V}, RepAll K B vs (ns.map D.bl) → vs = ns.map V.bl
  | [], _, h => by cases h; rfl
  | n :: ns, _, h => by
    cases h with
    | cons h1 h2 =>
      cases h1
      rw [RepAll.bls h2]
      rfl
theorem RepFs.look : ∀ {gs : List (Str × D)} {fs : List (Str × V)} {f : Str} {d : D}, RepFs K B fs gs → gs.lookup f = some d → ∃ v, fs.lookup f = some v ∧ Rep K B v d
  | [], _, _, _, h, e => by simp at e
  | (g, x) :: gs, _, f, d, h, e => by
    cases h with
    | cons h1 h2 =>
      rename_i v vs
      rw [List.lookup_cons] at e
      rw [List.lookup_cons]
      cases q : f == g with
      | true =>
        rw [q] at e
        have e' : x = d := Option.some.inj e
        exact ⟨v, rfl, e' ▸ h1⟩
      | false =>
        rw [q] at e
        exact RepFs.look h2 e
theorem RepFs.len : ∀ {gs : List (Str × D)} {fs : List (Str × V)}, RepFs K B fs gs → fs.length = gs.length
  | [], _, h => by cases h; rfl
  | (g, x) :: gs, _, h => by
    cases h with
    | cons h1 h2 => rw [List.length_cons, List.length_cons, RepFs.len h2]
/-- data's store to a field -/
def putD (f : Str) (d : D) : List (Str × D) → List (Str × D)
  | [] => [(f, d)]
  | (g, x) :: gs => if g = f then (g, d) :: gs else (g, x) :: putD f d gs
end

/-! ### the situation: slots, own objects -/
inductive Vl where
  | dat (d : D) | own (n : Nat) | tl (ds : List D) | lk (ds : List (List Int × D))
/-- what an own object (one that may still change) holds; gone: nothing is said of it any more -/
inductive Mc where
  | gone | lst (ds : List D) | obj (C : Addr) (fs : List (Str × D)) | dic (ds : List (List Int × D))
abbrev Sl := List (Option Vl)
def VlOk (K : PySem.W.Frag) (B : Hp) (al : List Addr) (v : V) : Vl → Prop
  | .dat d => Rep K B v d
  | .own n => ∃ a, al[n]? = some a ∧ v = .ref a
  | .tl ds => ∃ a xs, v = .ref a ∧ B a = some (.lst xs) ∧ RepAll K B xs ds
  | .lk ds => ∃ a o kvs, v = .ref a ∧ B a = some (.frz o (.dT kvs)) ∧ RepKv K B kvs ds
def McOk (K : PySem.W.Frag) (B H : Hp) (a : Addr) : Mc → Prop
  | .gone => True
  | .lst ds => B a = none ∧ ∃ xs, H a = some (.lst xs) ∧ RepAll K B xs ds
  | .obj C fs => B a = none ∧ ∃ dx fv, H a = some (.ins C dx fv) ∧ RepFs K B fv fs
  | .dic ds => B a = none ∧ ∃ kvs, H a = some (.dT kvs) ∧ RepKv K B kvs ds
structure Sit (K : PySem.W.Frag) (B H : Hp) (al : List Addr) (σ : L2.St) (ss : Sl) (mem : List Mc) : Prop where
  sub : Same B H
  len : σ.length = ss.length
  slot : ∀ (i : Nat) (r : Vl), ss[i]? = some (some r) → ∃ v : V, σ[i]? = some (some v) ∧ VlOk K B al v r
  mlen : al.length = mem.length
  mem : ∀ (n : Nat) (a : Addr) (m : Mc), al[n]? = some a → mem[n]? = some m → McOk K B H a m
  nd : al.Nodup
  there : ∀ a ∈ al, H a ≠ none
structure Stp (B H : Hp) (al : List Addr) (B' H' : Hp) (al' : List Addr) : Prop where
  same : Same B B'
  frame : ∀ b o, H b = some o → b ∉ al → H' b = some o
  fresh : ∀ b, B' b ≠ none → B b ≠ none ∨ H b = none ∨ b ∈ al ∨ ∃ xs, H b = some (.tup xs)
  stay : ∀ b, H b ≠ none → H' b ≠ none
  ext : ∃ ex, al' = al ++ ex ∧ ∀ a ∈ ex, H a = none
theorem Stp.refl (B H : Hp) (al : List Addr) : Stp B H al B H al :=
  ⟨Same.refl B, fun _ _ h _ => h, fun _ h => .inl h, fun _ h => h, [], by rw [List.append_nil], fun _ h => by cases h⟩
theorem Stp.trans {B H B1 H1 B2 H2 : Hp} {al al1 al2 : List Addr} (a : Stp B H al B1 H1 al1) (b : Stp B1 H1 al1 B2 H2 al2) : Stp B H al B2 H2 al2 := by
  obtain ⟨e1, q1, n1⟩ := a.ext
  obtain ⟨e2, q2, n2⟩ := b.ext
  have back : ∀ c, H1 c = none → H c = none := fun c h => by
    cases q : H c with
    | none => rfl
    | some o => exact absurd h (a.stay c (by rw [q]; exact fun z => nomatch z))
  refine ⟨a.same.trans b.same, fun c o h hn => b.frame c o (a.frame c o h hn) ?_, fun c h => ?_, fun c h => b.stay c (a.stay c h), e1 ++ e2, by rw [q2, q1, List.append_assoc], fun c h => ?_⟩
  · rw [q1]
    intro z
    rcases List.mem_append.mp z with z | z
    · exact hn z
    · rw [n1 c z] at h
      cases h
  · rcases b.fresh c h with z | z | z | ⟨xs, z⟩
    · exact a.fresh c z
    · exact .inr (.inl (back c z))
    · rw [q1] at z
      rcases List.mem_append.mp z with z | z
      · exact .inr (.inr (.inl z))
      · exact .inr (.inl (n1 c z))
    · rcases Option.eq_none_or_eq_some (H c) with q | ⟨o, q⟩
      · exact .inr (.inl q)
      · by_cases hc : c ∈ al
        · exact .inr (.inr (.inl hc))
        · have e := a.frame c o q hc
          rw [z] at e
          cases e
          exact .inr (.inr (.inr ⟨xs, q⟩))
  · rcases List.mem_append.mp h with z | z
    · exact n1 c z
    · exact back c (n2 c z)
theorem Stp.back {B H B1 H1 : Hp} {al al1 : List Addr} (a : Stp B H al B1 H1 al1) {c : Addr} (h : H1 c = none) : H c = none := by
  cases q : H c with
  | none => rfl
  | some o => exact absurd h (a.stay c (by rw [q]; exact fun z => nomatch z))
theorem Stp.get {B H B1 H1 : Hp} {al al1 : List Addr} (a : Stp B H al B1 H1 al1) {n : Nat} {x : Addr} (h : al[n]? = some x) : al1[n]? = some x := by
  obtain ⟨e1, q1, n1⟩ := a.ext
  obtain ⟨h1, h2⟩ := List.getElem?_eq_some_iff.mp h
  rw [q1, List.getElem?_append_left h1]
  exact h
section
variable {K : PySem.W.Frag} {B H B' H' : Hp} {al al' : List Addr} {σ : L2.St} {ss : Sl} {mem : List Mc}
theorem VlOk.step (a : Stp B H al B' H' al') {v : V} : ∀ {r : Vl}, VlOk K B al v r → VlOk K B' al' v r
  | .dat d, h => Rep.mono a.same d h
  | .own n, ⟨x, h1, h2⟩ => ⟨x, a.get h1, h2⟩
  | .tl ds, ⟨x, xs, h1, h2, h3⟩ => ⟨x, xs, h1, a.same _ _ h2, RepAll.mono a.same ds h3⟩
  | .lk ds, ⟨x, o, xs, h1, h2, h3⟩ => ⟨x, o, xs, h1, a.same _ _ h2, RepKv.mono a.same ds h3⟩
def VlsOk (K : PySem.W.Frag) (B : Hp) (al : List Addr) : List V → List Vl → Prop
  | [], [] => True
  | v :: vs, r :: rs => VlOk K B al v r ∧ VlsOk K B al vs rs
  | _, _ => False
theorem VlsOk.step (a : Stp B H al B' H' al') : ∀ {vs : List V} {rs : List Vl}, VlsOk K B al vs rs → VlsOk K B' al' vs rs
  | [], [], _ => trivial
  | _ :: _, _ :: _, ⟨h1, h2⟩ => ⟨h1.step a, VlsOk.step a h2⟩
theorem VlsOk.dats : ∀ {vs : List V} {ds : List D}, VlsOk K B al vs (ds.map Vl.dat) → RepAll K B vs ds
  | [], [], _ => .nil
  | _ :: _, _ :: _, ⟨h1, h2⟩ => .cons h1 (VlsOk.dats h2)
theorem VlsOk.len : ∀ {vs : List V} {rs : List Vl}, VlsOk K B al vs rs → vs.length = rs.length
  | [], [], _ => rfl
  | _ :: vs, _ :: rs, ⟨h1, h2⟩ => by rw [List.length_cons, List.length_cons, VlsOk.len h2]
/-- a new object is laid, tracked, as data at once -/
theorem Sit.lay (S : Sit K B H al σ ss mem) {p : Addr} {o : HO} (np : H p = none) : Stp B H al (upd B p o) (upd H p o) al ∧ Sit K (upd B p o) (upd H p o) al σ ss mem := by
  have nb : B p = none := S.sub.free np
  have sB : Same B (upd B p o) := fun b u e => by rw [upd_ne (ne_of_none e nb)]; exact e
  have sH : Same H (upd H p o) := fun b u e => by rw [upd_ne (ne_of_none e np)]; exact e
  have hn : ∀ b, H b ≠ none → b ≠ p := fun b h e => h (e ▸ np)
  have P : Stp B H al (upd B p o) (upd H p o) al := by
    refine ⟨sB, fun b u e _ => sH b u e, fun b h => ?_, fun b h => ?_, [], by rw [List.append_nil], fun _ h => by cases h⟩
    · by_cases e : b = p
      · exact .inr (.inl (e ▸ np))
      · rw [upd_ne e] at h
        exact .inl h
    · rw [upd_ne (hn b h)]
      exact h
  refine ⟨P, fun b u e => ?_, S.len, fun i r e => ?_, S.mlen, fun n a m h1 h2 => ?_, S.nd, fun a h => P.stay a (S.there a h)⟩
  · by_cases q : b = p
    · subst q
      rw [upd_same] at e ⊢
      exact e
    · rw [upd_ne q] at e ⊢
      exact S.sub b u e
  · obtain ⟨v, h1, h2⟩ := S.slot i r e
    exact ⟨v, h1, h2.step P⟩
  · have q := S.mem n a m h1 h2
    have ha : a ≠ p := hn a (S.there a (List.mem_of_getElem? h1))
    cases m with
    | gone => trivial
    | lst ds =>
      obtain ⟨b0, xs, h3, h4⟩ := q
      exact ⟨by rw [upd_ne ha]; exact b0, xs, sH _ _ h3, RepAll.mono sB ds h4⟩
    | obj C fs =>
      obtain ⟨b0, dx, fv, h3, h4⟩ := q
      exact ⟨by rw [upd_ne ha]; exact b0, dx, fv, sH _ _ h3, RepFs.mono sB fs h4⟩
    | dic ds =>
      obtain ⟨b0, kv, h3, h4⟩ := q
      exact ⟨by rw [upd_ne ha]; exact b0, kv, sH _ _ h3, RepKv.mono sB ds h4⟩
/-- a new object is laid, tracked, as an own one -/
theorem Sit.layOwn (S : Sit K B H al σ ss mem) {p : Addr} {o : HO} {m : Mc} (np : H p = none) (hm : McOk K B (upd H p o) p m) : Stp B H al B (upd H p o) (al ++ [p]) ∧ Sit K B (upd H p o) (al ++ [p]) σ ss (mem ++ [m]) := by
  have nb : B p = none := S.sub.free np
  have sH : Same H (upd H p o) := fun b u e => by rw [upd_ne (ne_of_none e np)]; exact e
  have hn : ∀ b, H b ≠ none → b ≠ p := fun b h e => h (e ▸ np)
  have P : Stp B H al B (upd H p o) (al ++ [p]) := by
    refine ⟨Same.refl B, fun b u e _ => sH b u e, fun b h => .inl h, fun b h => ?_, [p], rfl, fun a h => ?_⟩
    · rw [upd_ne (hn b h)]
      exact h
    · rw [List.mem_singleton] at h
      exact h ▸ np
  have nal : p ∉ al := fun h => S.there p h np
  refine ⟨P, fun b u e => sH b u (S.sub b u e), S.len, fun i r e => ?_, by rw [List.length_append, List.length_append, S.mlen]; rfl, fun n a m' h1 h2 => ?_, ?_, fun a h => ?_⟩
  · obtain ⟨v, h1, h2⟩ := S.slot i r e
    exact ⟨v, h1, h2.step P⟩
  · by_cases hlt : n < al.length
    · rw [List.getElem?_append_left hlt] at h1
      rw [List.getElem?_append_left (S.mlen ▸ hlt)] at h2
      have q := S.mem n a m' h1 h2
      cases m' with
      | gone => trivial
      | lst ds =>
        obtain ⟨b0, xs, h3, h4⟩ := q
        exact ⟨b0, xs, sH _ _ h3, h4⟩
      | obj C fs =>
        obtain ⟨b0, dx, fv, h3, h4⟩ := q
        exact ⟨b0, dx, fv, sH _ _ h3, h4⟩
      | dic ds =>
        obtain ⟨b0, kv, h3, h4⟩ := q
        exact ⟨b0, kv, sH _ _ h3, h4⟩
    · have l1 : n < (al ++ [p]).length := (List.getElem?_eq_some_iff.mp h1).1
      rw [List.length_append, List.length_singleton] at l1
      have en : n = al.length := by omega
      subst en
      rw [List.getElem?_append_right (Nat.le_refl _), Nat.sub_self] at h1
      rw [List.getElem?_append_right (by rw [S.mlen]; exact Nat.le_refl _), S.mlen, Nat.sub_self] at h2
      have e1 : p = a := Option.some.inj h1
      have e2 : m = m' := Option.some.inj h2
      exact e1 ▸ e2 ▸ hm
  · rw [List.nodup_append]
    refine ⟨S.nd, List.Pairwise.cons (fun _ z => by cases z) .nil, fun a h b h2 e => ?_⟩
    rw [List.mem_singleton] at h2
    exact nal (h2 ▸ e ▸ h)
  · rcases List.mem_append.mp h with h | h
    · exact P.stay a (S.there a h)
    · rw [List.mem_singleton] at h
      rw [h, upd_same]
      exact fun z => nomatch z
/-- an own object is changed -/
theorem Sit.write (S : Sit K B H al σ ss mem) {n : Nat} {a : Addr} {o : HO} {m : Mc} (hn : al[n]? = some a) (hb : B a = none) (hm : McOk K B (upd H a o) a m) : Stp B H al B (upd H a o) al ∧ Sit K B (upd H a o) al σ ss (mem.set n m) := by
  have ha : a ∈ al := List.mem_of_getElem? hn
  have P : Stp B H al B (upd H a o) al := by
    refine ⟨Same.refl B, fun b u e z => ?_, fun b h => .inl h, fun b h => ?_, [], by rw [List.append_nil], fun _ h => by cases h⟩
    · rw [upd_ne (fun (q : b = a) => z (by rw [q]; exact ha))]
      exact e
    · by_cases e : b = a
      · rw [e, upd_same]
        exact fun z => nomatch z
      · rw [upd_ne e]
        exact h
  refine ⟨P, fun b u e => ?_, S.len, S.slot, by rw [List.length_set]; exact S.mlen, fun n' a' m' h1 h2 => ?_, S.nd, fun a' h => P.stay a' (S.there a' h)⟩
  · rw [upd_ne (ne_of_none e hb)]
    exact S.sub b u e
  · by_cases e : n' = n
    · subst e
      have ea : a' = a := Option.some.inj (h1.symm.trans hn)
      have hl : n' < mem.length := by
        have := (List.getElem?_eq_some_iff.mp h2).1
        rwa [List.length_set] at this
      rw [List.getElem?_set_self hl] at h2
      have em : m = m' := Option.some.inj h2
      rw [ea, ← em]
      exact hm
    · rw [List.getElem?_set_ne (Ne.symm e)] at h2
      have q := S.mem n' a' m' h1 h2
      have na : a' ≠ a := fun z => e (nd_ix S.nd h1 (z ▸ hn))
      cases m' with
      | gone => trivial
      | lst ds =>
        obtain ⟨b0, xs, h3, h4⟩ := q
        exact ⟨b0, xs, by rw [upd_ne na]; exact h3, h4⟩
      | obj C fs =>
        obtain ⟨b0, dx, fv, h3, h4⟩ := q
        exact ⟨b0, dx, fv, by rw [upd_ne na]; exact h3, h4⟩
      | dic ds =>
        obtain ⟨b0, kv, h3, h4⟩ := q
        exact ⟨b0, kv, by rw [upd_ne na]; exact h3, h4⟩
/-- an own object becomes data -/
theorem Sit.freeze (S : Sit K B H al σ ss mem) {n : Nat} {a : Addr} {o : HO} (hn : al[n]? = some a) (hb : B a = none) (ho : H a = some o) : Stp B H al (upd B a o) H al ∧ Sit K (upd B a o) H al σ ss (mem.set n .gone) := by
  have ha : a ∈ al := List.mem_of_getElem? hn
  have sB : Same B (upd B a o) := fun b u e => by rw [upd_ne (ne_of_none e hb)]; exact e
  have P : Stp B H al (upd B a o) H al := by
    refine ⟨sB, fun b u e z => e, fun b h => ?_, fun b h => h, [], by rw [List.append_nil], fun _ h => by cases h⟩
    by_cases e : b = a
    · exact .inr (.inr (.inl (e ▸ ha)))
    · rw [upd_ne e] at h
      exact .inl h
  refine ⟨P, fun b u e => ?_, S.len, fun i r e => ?_, by rw [List.length_set]; exact S.mlen, fun n' a' m' h1 h2 => ?_, S.nd, S.there⟩
  · by_cases q : b = a
    · subst q
      rw [upd_same] at e
      exact ho.trans e
    · rw [upd_ne q] at e
      exact S.sub b u e
  · obtain ⟨v, h1, h2⟩ := S.slot i r e
    exact ⟨v, h1, h2.step P⟩
  · by_cases e : n' = n
    · subst e
      have hl : n' < mem.length := by
        have := (List.getElem?_eq_some_iff.mp h2).1
        rwa [List.length_set] at this
      rw [List.getElem?_set_self hl] at h2
      have em : Mc.gone = m' := Option.some.inj h2
      exact em ▸ trivial
    · rw [List.getElem?_set_ne (Ne.symm e)] at h2
      have q := S.mem n' a' m' h1 h2
      have na : a' ≠ a := fun z => e (nd_ix S.nd h1 (z ▸ hn))
      cases m' with
      | gone => trivial
      | lst ds =>
        obtain ⟨b0, xs, h3, h4⟩ := q
        exact ⟨by rw [upd_ne na]; exact b0, xs, h3, RepAll.mono sB ds h4⟩
      | obj C fs =>
        obtain ⟨b0, dx, fv, h3, h4⟩ := q
        exact ⟨by rw [upd_ne na]; exact b0, dx, fv, h3, RepFs.mono sB fs h4⟩
      | dic ds =>
        obtain ⟨b0, kv, h3, h4⟩ := q
        exact ⟨by rw [upd_ne na]; exact b0, kv, h3, RepKv.mono sB ds h4⟩
/-- a slot is set -/
theorem Sit.put (S : Sit K B H al σ ss mem) {i : Nat} {v : V} {r : Option Vl} (hv : ∀ q, r = some q → VlOk K B al v q) : Sit K B H al (σ.set i (some v)) (ss.set i r) mem := by
  refine ⟨S.sub, by rw [List.length_set, List.length_set]; exact S.len, fun j q e => ?_, S.mlen, S.mem, S.nd, S.there⟩
  by_cases h : j = i
  · subst h
    have hl : j < ss.length := by
      have := (List.getElem?_eq_some_iff.mp e).1
      rwa [List.length_set] at this
    rw [List.getElem?_set_self hl] at e
    exact ⟨v, by rw [List.getElem?_set_self (by rw [S.len]; exact hl)], hv q (Option.some.inj e)⟩
  · rw [List.getElem?_set_ne (Ne.symm h)] at e
    rw [List.getElem?_set_ne (Ne.symm h)]
    exact S.slot j q e
/-- slots are forgotten -/
theorem Sit.less (S : Sit K B H al σ ss mem) {ss' : Sl} (hl : ss'.length = ss.length) (h : ∀ (i : Nat) (r : Vl), ss'[i]? = some (some r) → ss[i]? = some (some r)) : Sit K B H al σ ss' mem :=
  ⟨S.sub, by rw [hl]; exact S.len, fun i r e => S.slot i r (h i r e), S.mlen, S.mem, S.nd, S.there⟩
/-- the last own objects are forgotten -/
theorem Sit.drop {more : List Mc} (S : Sit K B H al σ ss (mem ++ more)) (h : ∀ (i n : Nat), ss[i]? = some (some (Vl.own n)) → n < mem.length) : Sit K B H (al.take mem.length) σ ss mem := by
  have hl : al.length = mem.length + more.length := by rw [S.mlen, List.length_append]
  have gt : ∀ n, n < mem.length → (al.take mem.length)[n]? = al[n]? := fun n h => List.getElem?_take_of_lt h
  refine ⟨S.sub, S.len, fun i r e => ?_, by rw [List.length_take]; omega, fun n a m h1 h2 => ?_, S.nd.sublist (List.take_sublist _ _), fun a h => S.there a (List.mem_of_mem_take h)⟩
  · obtain ⟨v, h1, h2⟩ := S.slot i r e
    refine ⟨v, h1, ?_⟩
    cases r with
    | dat d => exact h2
    | own n =>
      obtain ⟨x, h3, h4⟩ := h2
      exact ⟨x, by rw [gt n (h i n e)]; exact h3, h4⟩
    | tl ds => exact h2
    | lk ds => exact h2
  · have hn : n < mem.length := (List.getElem?_eq_some_iff.mp h2).1
    rw [gt n hn] at h1
    exact S.mem n a m h1 (by rw [List.getElem?_append_left hn]; exact h2)
theorem Stp.drop (P : Stp B H al B' H' al') (n : Nat) (h : al.length ≤ n) : Stp B H al B' H' (al'.take n) := by
  obtain ⟨ex, q, z⟩ := P.ext
  refine ⟨P.same, P.frame, P.fresh, P.stay, ex.take (n - al.length), ?_, fun a h => z a (List.mem_of_mem_take h)⟩
  rw [q, List.take_append, List.take_of_length_le h]
end
end DL
end
section
set_option Elab.async false
set_option linter.all false
set_option maxRecDepth 100000
namespace DL
open PySem PySem.Spec PyProof.Rows L2
section
variable (K : PySem.W.Frag)
/-- an expression: from these slots and own objects it gives r and leaves mem' -/
def DT (t : TE) (ss : Sl) (mem : List Mc) (r : Vl) (mem' : List Mc) : Prop :=
  ∀ (B H : Hp) (al : List Addr) (σ : L2.St) (Q : VK), Sit K B H al σ ss mem → (∀ B' H' al' v, Stp B H al B' H' al' → Sit K B' H' al' σ ss mem' → VlOk K B' al' v r → Q v H') → t σ H Q
def DB (t : TT) (ss : Sl) (mem : List Mc) (b : Bool) (mem' : List Mc) : Prop :=
  ∀ (B H : Hp) (al : List Addr) (σ : L2.St) (Q : Bool → Hp → Prop), Sit K B H al σ ss mem → (∀ B' H' al', Stp B H al B' H' al' → Sit K B' H' al' σ ss mem' → Q b H') → t σ H Q
/-- arguments that are data -/
def DA (t : TA) (ss : Sl) (mem : List Mc) (ds : List D) (mem' : List Mc) : Prop :=
  ∀ (B H : Hp) (al : List Addr) (σ : L2.St) (Q : List V → Hp → Prop), Sit K B H al σ ss mem → (∀ B' H' al' vs, Stp B H al B' H' al' → Sit K B' H' al' σ ss mem' → RepAll K B' vs ds → Q vs H') → t σ H Q
/-- the first argument own, the others data -/
def DAO (t : TA) (ss : Sl) (mem : List Mc) (n : Nat) (ds : List D) (mem' : List Mc) : Prop :=
  ∀ (B H : Hp) (al : List Addr) (σ : L2.St) (Q : List V → Hp → Prop), Sit K B H al σ ss mem → (∀ B' H' al' v vs, Stp B H al B' H' al' → Sit K B' H' al' σ ss mem' → VlOk K B' al' v (.own n) → RepAll K B' vs ds → Q (v :: vs) H') → t σ H Q
/-- an optional part of a slice -/
def DO (t : TO) (ss : Sl) (mem : List Mc) (i : Option Int) (mem' : List Mc) : Prop :=
  ∀ (B H : Hp) (al : List Addr) (σ : L2.St) (Q : Option Int → Hp → Prop), Sit K B H al σ ss mem → (∀ B' H' al', Stp B H al B' H' al' → Sit K B' H' al' σ ss mem' → Q i H') → t σ H Q
end
section
variable {K : PySem.W.Frag} {ss : Sl} {mem m1 m2 m3 m4 : List Mc} {ta tb tc te : TE} {i j : Int} {d e : D} {r r' : Vl}

theorem dt_var {i : Nat} (h : ss[i]? = some (some r)) : DT K (tVar i) ss mem r mem := fun B H al σ Q S k => by
  obtain ⟨v, h1, h2⟩ := S.slot i r h
  exact ⟨v, h1, k _ _ _ v (Stp.refl _ _ _) S h2⟩
theorem dt_c {v : V} (h : ∀ B, Rep K B v d) : DT K (tC v) ss mem (.dat d) mem := fun B H al σ Q S k => k _ _ _ v (Stp.refl _ _ _) S (h B)
theorem dt_int {i : Int} : DT K (tC (.int i)) ss mem (.dat (.int i)) mem := dt_c fun _ => .int i
theorem dt_bl {b : Bool} : DT K (tC (.bl b)) ss mem (.dat (.bl b)) mem := dt_c fun _ => .bl b
theorem dt_non : DT K (tC .non) ss mem (.dat .non) mem := dt_c fun _ => .non
theorem dt_str {x : Str} : DT K (tC (.str x)) ss mem (.dat (.str x)) mem := dt_c fun _ => .str x
theorem da_nil : DA K tNil ss mem [] mem := fun B H al σ Q S k => k _ _ _ [] (Stp.refl _ _ _) S .nil
theorem da_cons {t : TA} {ds : List D} (h1 : DT K ta ss mem (.dat d) m1) (h2 : DA K t ss m1 ds m2) : DA K (tCons ta t) ss mem (d :: ds) m2 := fun B H al σ Q S k =>
  h1 B H al σ _ S fun B1 H1 al1 v P1 S1 r1 => h2 B1 H1 al1 σ _ S1 fun B2 H2 al2 vs P2 S2 r2 => k _ _ _ _ (P1.trans P2) S2 (.cons (Rep.mono P2.same d r1) r2)
theorem dao_cons {t : TA} {n : Nat} {ds : List D} (h1 : DT K ta ss mem (.own n) m1) (h2 : DA K t ss m1 ds m2) : DAO K (tCons ta t) ss mem n ds m2 := fun B H al σ Q S k =>
  h1 B H al σ _ S fun B1 H1 al1 v P1 S1 r1 => h2 B1 H1 al1 σ _ S1 fun B2 H2 al2 vs P2 S2 r2 => k _ _ _ _ _ (P1.trans P2) S2 (r1.step P2) r2

/-- an operator by values -/
def DR2 (K : PySem.W.Frag) (rr : R2) (ss : Sl) (mem : List Mc) (x y : Vl) (r : Vl) (mem' : List Mc) : Prop :=
  ∀ (B H : Hp) (al : List Addr) (σ : L2.St) (v w : V) (Q : VK), Sit K B H al σ ss mem → VlOk K B al v x → VlOk K B al w y → (∀ B' H' al' z, Stp B H al B' H' al' → Sit K B' H' al' σ ss mem' → VlOk K B' al' z r → Q z H') → rr v w H Q
theorem dt_op {rr : R2} {x y : Vl} (ha : DT K ta ss mem x m1) (hb : DT K tb ss m1 y m2) (hr : DR2 K rr ss m2 x y r m3) : DT K (tOp rr ta tb) ss mem r m3 := fun B H al σ Q S k =>
  ha B H al σ _ S fun B1 H1 al1 v P1 S1 r1 => hb B1 H1 al1 σ _ S1 fun B2 H2 al2 w P2 S2 r2 => hr B2 H2 al2 σ v w Q S2 (r1.step P2) r2 fun B3 H3 al3 z P3 S3 r3 => k _ _ _ _ ((P1.trans P2).trans P3) S3 r3
theorem dr_i0 {g : Int → Int → V} (h : ∀ B, Rep K B (g i j) d) : DR2 K (rI0 g) ss mem (.dat (.int i)) (.dat (.int j)) (.dat d) mem := fun B H al σ v w Q S hv hw k => by
  cases hv
  cases hw
  exact ⟨i, j, rfl, rfl, k _ _ _ _ (Stp.refl _ _ _) S (h B)⟩
theorem dr_ic {C : Int → Int → Prop} {g : Int → Int → V} (hc : C i j) (h : ∀ B, Rep K B (g i j) d) : DR2 K (rI C g) ss mem (.dat (.int i)) (.dat (.int j)) (.dat d) mem := fun B H al σ v w Q S hv hw k => by
  cases hv
  cases hw
  exact ⟨i, j, rfl, rfl, hc, k _ _ _ _ (Stp.refl _ _ _) S (h B)⟩
/-- a + b, a - b -/
theorem dt_i0 {g : Int → Int → Int} (ha : DT K ta ss mem (.dat (.int i)) m1) (hb : DT K tb ss m1 (.dat (.int j)) m2) : DT K (tOp (rI0 fun a b => .int (g a b)) ta tb) ss mem (.dat (.int (g i j))) m2 :=
  dt_op ha hb (dr_i0 fun _ => .int _)
/-- a < b .. -/
theorem dt_i0b {g : Int → Int → Bool} (ha : DT K ta ss mem (.dat (.int i)) m1) (hb : DT K tb ss m1 (.dat (.int j)) m2) : DT K (tOp (rI0 fun a b => .bl (g a b)) ta tb) ss mem (.dat (.bl (g i j))) m2 :=
  dt_op ha hb (dr_i0 fun _ => .bl _)
/-- a * b, a // b, a % b -/
theorem dt_ic {C : Int → Int → Prop} {g : Int → Int → Int} (ha : DT K ta ss mem (.dat (.int i)) m1) (hb : DT K tb ss m1 (.dat (.int j)) m2) (hc : C i j) : DT K (tOp (rI C fun a b => .int (g a b)) ta tb) ss mem (.dat (.int (g i j))) m2 :=
  dt_op ha hb (dr_ic hc fun _ => .int _)
/-- == of ints -/
theorem dt_eqI (ha : DT K ta ss mem (.dat (.int i)) m1) (hb : DT K tb ss m1 (.dat (.int j)) m2) : DT K (tOp rEq ta tb) ss mem (.dat (.bl (decide (i = j)))) m2 :=
  dt_op ha hb fun B H al σ v w Q S hv hw k => by
    cases hv
    cases hw
    refine ⟨rfl, k _ _ _ _ (Stp.refl _ _ _) S ?_⟩
    have e : decide (V.int i = V.int j) = decide (i = j) := by simp
    rw [e]
    exact .bl _
theorem dt_neI (ha : DT K ta ss mem (.dat (.int i)) m1) (hb : DT K tb ss m1 (.dat (.int j)) m2) : DT K (tOp rNe ta tb) ss mem (.dat (.bl (!decide (i = j)))) m2 :=
  dt_op ha hb fun B H al σ v w Q S hv hw k => by
    cases hv
    cases hw
    refine ⟨rfl, k _ _ _ _ (Stp.refl _ _ _) S ?_⟩
    have e : decide (V.int i = V.int j) = decide (i = j) := by simp
    rw [e]
    exact .bl _
def D.isN : D → Bool
  | .non => true
  | _ => false
theorem rep_isN {B : Hp} {v : V} (h : Rep K B v d) : decide (v = .non) = d.isN := by
  cases h <;> simp [D.isN]
theorem dt_isN (ha : DT K ta ss mem (.dat d) m1) : DT K (tIsN ta) ss mem (.dat (.bl d.isN)) m1 := fun B H al σ Q S k =>
  ha B H al σ _ S fun B1 H1 al1 v P1 S1 r1 => by
    show Q (.bl (decide (v = .non))) H1
    rw [rep_isN r1]
    exact k _ _ _ _ P1 S1 (.bl _)
theorem dt_notN (ha : DT K ta ss mem (.dat d) m1) : DT K (tNotN ta) ss mem (.dat (.bl (!d.isN))) m1 := fun B H al σ Q S k =>
  ha B H al σ _ S fun B1 H1 al1 v P1 S1 r1 => by
    show Q (.bl (!decide (v = .non))) H1
    rw [rep_isN r1]
    exact k _ _ _ _ P1 S1 (.bl _)
/-- items by place -/
theorem RepAll.atI {B : Hp} {xs : List V} {ds : List D} {i : Int} {d : D} (h : RepAll K B xs ds) (e : L2.atI ds i = some d) : ∃ v, L2.atI xs i = some v ∧ Rep K B v d := by
  unfold L2.atI at e ⊢
  rw [h.len]
  cases q : ixN ds.length i with
  | none => rw [q] at e; cases e
  | some n =>
    rw [q] at e
    exact h.get (i := n) e
theorem Sit.seqT {B H : Hp} {al : List Addr} {σ : L2.St} {a : Addr} {xs : List V} (S : Sit K B H al σ ss mem) (h : SqT K B a xs) : SqT K H a xs := sameT S.sub h
theorem Sit.seqL {B H : Hp} {al : List Addr} {σ : L2.St} {a : Addr} {xs : List V} (S : Sit K B H al σ ss mem) (h : SqL K B a xs) : SqL K H a xs := S.sub.seq h
theorem dt_ixT {ds : List D} (ha : DT K ta ss mem (.dat (.tup ds)) m1) (hb : DT K tb ss m1 (.dat (.int i)) m2) (h : L2.atI ds i = some d) : DT K (tOp (rIxT K) ta tb) ss mem (.dat d) m2 :=
  dt_op ha hb fun B H al σ v w Q S hv hw k => by
    cases hv with
    | tup s r =>
      cases hw
      obtain ⟨x, h1, h2⟩ := r.atI h
      exact ⟨_, _, i, x, rfl, rfl, S.seqT (SqT.of s), h1, k _ _ _ _ (Stp.refl _ _ _) S h2⟩
theorem dt_ixC {ds : List D} (ha : DT K ta ss mem (.dat (.ctp ds)) m1) (hb : DT K tb ss m1 (.dat (.int i)) m2) (h : L2.atI ds i = some d) : DT K (tOp (rIxT K) ta tb) ss mem (.dat d) m2 :=
  dt_op ha hb fun B H al σ v w Q S hv hw k => by
    cases hv with
    | ctp s r =>
      cases hw
      obtain ⟨x, h1, h2⟩ := r.atI h
      exact ⟨_, _, i, x, rfl, rfl, S.seqT s, h1, k _ _ _ _ (Stp.refl _ _ _) S h2⟩
theorem dt_ixL {ds : List D} (ha : DT K ta ss mem (.dat (.lst ds)) m1) (hb : DT K tb ss m1 (.dat (.int i)) m2) (h : L2.atI ds i = some d) : DT K (tOp (rIxL K) ta tb) ss mem (.dat d) m2 :=
  dt_op ha hb fun B H al σ v w Q S hv hw k => by
    cases hv with
    | lst s r =>
      cases hw
      obtain ⟨x, h1, h2⟩ := r.atI h
      exact ⟨_, _, i, x, rfl, rfl, S.seqL s, h1, k _ _ _ _ (Stp.refl _ _ _) S h2⟩
theorem dt_ixO {n : Nat} {ds : List D} (ha : DT K ta ss mem (.own n) m1) (hb : DT K tb ss m1 (.dat (.int i)) m2) (hm : m2[n]? = some (.lst ds)) (h : L2.atI ds i = some d) : DT K (tOp (rIxL K) ta tb) ss mem (.dat d) m2 :=
  dt_op ha hb fun B H al σ v w Q S hv hw k => by
    obtain ⟨a, h1, rfl⟩ := hv
    cases hw
    obtain ⟨_, xs, h2, h3⟩ := S.mem n a _ h1 hm
    obtain ⟨x, h4, h5⟩ := h3.atI h
    exact ⟨_, _, i, x, rfl, rfl, SqL.of h2, h4, k _ _ _ _ (Stp.refl _ _ _) S h5⟩
/-- t < u (tuples of ints) -/
theorem dt_ltT {ns ms : List Int} (ha : DT K ta ss mem (.dat (.tup (ns.map .int))) m1) (hb : DT K tb ss m1 (.dat (.tup (ms.map .int))) m2) : DT K (tOp (rLtT K) ta tb) ss mem (.dat (.bl (HT.lexLt ns ms))) m2 :=
  dt_op ha hb fun B H al σ v w Q S hv hw k => by
    cases hv with
    | tup s r =>
      cases hw with
      | tup s' r' =>
        cases r.ints
        cases r'.ints
        exact ⟨_, _, ns, ms, rfl, rfl, S.seqT (SqT.of s), S.seqT (SqT.of s'), k _ _ _ _ (Stp.refl _ _ _) S (.bl _)⟩
/-- xs + ys, both own: a new own list -/
theorem dt_cat {n n' : Nat} {ds es : List D} (ha : DT K ta ss mem (.own n) m1) (hb : DT K tb ss m1 (.own n') m2) (h1 : m2[n]? = some (.lst ds)) (h2 : m2[n']? = some (.lst es)) (hl : ds.length + es.length ≤ 16777216) :
    DT K (tOp rCat ta tb) ss mem (.own m2.length) (m2 ++ [.lst (ds ++ es)]) :=
  dt_op ha hb fun B H al σ v w Q S hv hw k => by
    obtain ⟨a, a1, rfl⟩ := hv
    obtain ⟨b, b1, rfl⟩ := hw
    obtain ⟨_, xs, a2, a3⟩ := S.mem n a _ a1 h1
    obtain ⟨_, ys, b2, b3⟩ := S.mem n' b _ b1 h2
    refine ⟨a, b, xs, ys, rfl, rfl, a2, b2, by rw [a3.len, b3.len, sizeLine_eq]; exact hl, fun p np => ?_⟩
    have nb : B p = none := S.sub.free np
    obtain ⟨P, S'⟩ := S.layOwn (o := .lst (xs ++ ys)) (m := .lst (ds ++ es)) np ⟨nb, _, upd_same, a3.append b3⟩
    exact k _ _ _ _ P S' ⟨p, by rw [← S.mlen, List.getElem?_append_right (Nat.le_refl _), Nat.sub_self]; rfl, rfl⟩
theorem dt_un {g : Int → Int} (ha : DT K ta ss mem (.dat (.int i)) m1) : DT K (tUn (rU fun a => .int (g a)) ta) ss mem (.dat (.int (g i))) m1 := fun B H al σ Q S k =>
  ha B H al σ _ S fun B1 H1 al1 v P1 S1 r1 => by
    cases r1
    exact ⟨i, rfl, k _ _ _ _ P1 S1 (.int _)⟩
/-! tests -/
theorem db_test {b : Bool} (h : DT K te ss mem (.dat (.bl b)) m1) : DB K (tTest te) ss mem b m1 := fun B H al σ Q S k =>
  h B H al σ _ S fun B1 H1 al1 v P1 S1 r1 => by
    cases r1
    exact ⟨b, rfl, k _ _ _ P1 S1⟩
theorem db_b {b : Bool} (h : DT K te ss mem (.dat (.bl b)) m1) : DB K (tB te) ss mem b m1 := fun B H al σ Q S k =>
  h B H al σ _ S fun B1 H1 al1 v P1 S1 r1 => by
    cases r1
    exact ⟨b, rfl, k _ _ _ P1 S1⟩
theorem db_not {t : TT} {b : Bool} (h : DB K t ss mem b m1) : DB K (tNot t) ss mem (!b) m1 := fun B H al σ Q S k => h B H al σ _ S k
theorem db_and_t {t u : TT} {b : Bool} (h : DB K t ss mem true m1) (g : DB K u ss m1 b m2) : DB K (tAnd t u) ss mem b m2 := fun B H al σ Q S k =>
  h B H al σ _ S fun B1 H1 al1 P1 S1 => iteT (g B1 H1 al1 σ _ S1 fun B2 H2 al2 P2 S2 => k _ _ _ (P1.trans P2) S2)
theorem db_and_f {t u : TT} (h : DB K t ss mem false m1) : DB K (tAnd t u) ss mem false m1 := fun B H al σ Q S k =>
  h B H al σ _ S fun B1 H1 al1 P1 S1 => iteF (k _ _ _ P1 S1)
theorem db_or_t {t u : TT} (h : DB K t ss mem true m1) : DB K (tOr t u) ss mem true m1 := fun B H al σ Q S k =>
  h B H al σ _ S fun B1 H1 al1 P1 S1 => iteT (k _ _ _ P1 S1)
theorem db_or_f {t u : TT} {b : Bool} (h : DB K t ss mem false m1) (g : DB K u ss m1 b m2) : DB K (tOr t u) ss mem b m2 := fun B H al σ Q S k =>
  h B H al σ _ S fun B1 H1 al1 P1 S1 => iteF (g B1 H1 al1 σ _ S1 fun B2 H2 al2 P2 S2 => k _ _ _ (P1.trans P2) S2)
/-- both tests without a change -/
theorem db_and {t u : TT} {a b : Bool} (h : DB K t ss mem a mem) (g : a = true → DB K u ss mem b mem) : DB K (tAnd t u) ss mem (a && b) mem := by
  cases a with
  | true => exact db_and_t h (g rfl)
  | false => exact db_and_f h
theorem db_or {t u : TT} {a b : Bool} (h : DB K t ss mem a mem) (g : a = false → DB K u ss mem b mem) : DB K (tOr t u) ss mem (a || b) mem := by
  cases a with
  | true => exact db_or_t h
  | false => exact db_or_f h (g rfl)
theorem dt_andV_t {b : Bool} (h : DT K ta ss mem (.dat (.bl true)) m1) (g : DT K tb ss m1 r m2) : DT K (tAndV ta tb) ss mem r m2 := fun B H al σ Q S k =>
  h B H al σ _ S fun B1 H1 al1 v P1 S1 r1 => by
    cases r1
    exact ⟨true, rfl, iteT (g B1 H1 al1 σ _ S1 fun B2 H2 al2 v P2 S2 r2 => k _ _ _ _ (P1.trans P2) S2 r2)⟩
theorem dt_andV_f (h : DT K ta ss mem (.dat (.bl false)) m1) : DT K (tAndV ta tb) ss mem (.dat (.bl false)) m1 := fun B H al σ Q S k =>
  h B H al σ _ S fun B1 H1 al1 v P1 S1 r1 => by
    cases r1
    exact ⟨false, rfl, iteF (k _ _ _ _ P1 S1 (.bl _))⟩
theorem dt_andV {a b : Bool} (h : DT K ta ss mem (.dat (.bl a)) mem) (g : a = true → DT K tb ss mem (.dat (.bl b)) mem) : DT K (tAndV ta tb) ss mem (.dat (.bl (a && b))) mem := by
  cases a with
  | true => exact dt_andV_t (b := b) h (g rfl)
  | false => exact dt_andV_f h
theorem dt_orV_t (h : DT K ta ss mem (.dat (.bl true)) m1) : DT K (tOrV ta tb) ss mem (.dat (.bl true)) m1 := fun B H al σ Q S k =>
  h B H al σ _ S fun B1 H1 al1 v P1 S1 r1 => by
    cases r1
    exact ⟨true, rfl, iteT (k _ _ _ _ P1 S1 (.bl _))⟩
theorem dt_orV_f (h : DT K ta ss mem (.dat (.bl false)) m1) (g : DT K tb ss m1 r m2) : DT K (tOrV ta tb) ss mem r m2 := fun B H al σ Q S k =>
  h B H al σ _ S fun B1 H1 al1 v P1 S1 r1 => by
    cases r1
    exact ⟨false, rfl, iteF (g B1 H1 al1 σ _ S1 fun B2 H2 al2 v P2 S2 r2 => k _ _ _ _ (P1.trans P2) S2 r2)⟩
theorem dt_orV {a b : Bool} (h : DT K ta ss mem (.dat (.bl a)) mem) (g : a = false → DT K tb ss mem (.dat (.bl b)) mem) : DT K (tOrV ta tb) ss mem (.dat (.bl (a || b))) mem := by
  cases a with
  | true => exact dt_orV_t h
  | false => exact dt_orV_f h (g rfl)
theorem dt_notV {b : Bool} (h : DT K ta ss mem (.dat (.bl b)) m1) : DT K (tNotV ta) ss mem (.dat (.bl (!b))) m1 := fun B H al σ Q S k =>
  h B H al σ _ S fun B1 H1 al1 v P1 S1 r1 => by
    cases r1
    exact ⟨b, rfl, k _ _ _ _ P1 S1 (.bl _)⟩
theorem dt_if_t {c : TT} (h : DB K c ss mem true m1) (g : DT K ta ss m1 r m2) : DT K (tIf c ta tb) ss mem r m2 := fun B H al σ Q S k =>
  h B H al σ _ S fun B1 H1 al1 P1 S1 => iteT (g B1 H1 al1 σ _ S1 fun B2 H2 al2 v P2 S2 r2 => k _ _ _ _ (P1.trans P2) S2 r2)
theorem dt_if_f {c : TT} (h : DB K c ss mem false m1) (g : DT K tb ss m1 r m2) : DT K (tIf c ta tb) ss mem r m2 := fun B H al σ Q S k =>
  h B H al σ _ S fun B1 H1 al1 P1 S1 => iteF (g B1 H1 al1 σ _ S1 fun B2 H2 al2 v P2 S2 r2 => k _ _ _ _ (P1.trans P2) S2 r2)
/-- a choice: both ways -/
theorem dt_if {c : TT} {b : Bool} (h : DB K c ss mem b m1) (g : if b = true then DT K ta ss m1 r m2 else DT K tb ss m1 r m2) : DT K (tIf c ta tb) ss mem r m2 := by
  cases b with
  | true => exact dt_if_t h g
  | false => exact dt_if_f h g
/-- a < b < c of ints, by values -/
theorem dt_chain {g g' : Int → Int → Bool} {k' : Int} (ha : DT K ta ss mem (.dat (.int i)) m1) (hb : DT K tb ss m1 (.dat (.int j)) m2) (hc : DT K tc ss m2 (.dat (.int k')) m2) :
    DT K (tChain (rI0 fun a b => .bl (g a b)) (rI0 fun a b => .bl (g' a b)) ta tb tc) ss mem (.dat (.bl (g i j && g' j k'))) m2 := fun B H al σ Q S k =>
  ha B H al σ _ S fun B1 H1 al1 v P1 S1 r1 => hb B1 H1 al1 σ _ S1 fun B2 H2 al2 w P2 S2 r2 => by
    cases r1
    cases r2
    refine ⟨i, j, rfl, rfl, g i j, rfl, ?_⟩
    cases q : g i j with
    | true => exact iteT (hc B2 H2 al2 σ _ S2 fun B3 H3 al3 x P3 S3 r3 => by
        cases r3
        exact ⟨j, k', rfl, rfl, k _ _ _ _ ((P1.trans P2).trans P3) S3 (by rw [q, Bool.true_and]; exact Rep.bl _)⟩)
    | false => exact iteF (k _ _ _ _ (P1.trans P2) S2 (by rw [q, Bool.false_and]; exact Rep.bl _))
/-! tuples, lists, slices -/
theorem dt_tup {t : TA} {ds : List D} (h : DA K t ss mem ds m1) (hl : ds.length ≤ 16777216 := by exact Nat.le_of_ble_eq_true rfl) : DT K (tTup t) ss mem (.dat (.tup ds)) m1 := fun B H al σ Q S k =>
  h B H al σ _ S fun B1 H1 al1 vs P1 S1 r1 => by
    refine ⟨by rw [r1.len, sizeLine_eq]; exact hl, fun p np => ?_⟩
    obtain ⟨P, S'⟩ := S1.lay (o := .tup vs) np
    exact k _ _ _ _ (P1.trans P) S' (.tup upd_same (RepAll.mono P.same ds r1))
theorem dt_lst {t : TA} {ds : List D} (h : DA K t ss mem ds m1) (hl : ds.length ≤ 16777216 := by exact Nat.le_of_ble_eq_true rfl) : DT K (tLst t) ss mem (.dat (.lst ds)) m1 := fun B H al σ Q S k =>
  h B H al σ _ S fun B1 H1 al1 vs P1 S1 r1 => by
    refine ⟨by rw [r1.len, sizeLine_eq]; exact hl, fun p np => ?_⟩
    obtain ⟨P, S'⟩ := S1.lay (o := .lst vs) np
    exact k _ _ _ _ (P1.trans P) S' (.lst (SqL.of upd_same) (RepAll.mono P.same ds r1))
theorem own_last {B : Hp} {al : List Addr} {σ : L2.St} {H : Hp} (S : Sit K B H al σ ss mem) (p : Addr) : VlOk K B (al ++ [p]) (.ref p) (.own mem.length) :=
  ⟨p, by rw [← S.mlen, List.getElem?_append_right (Nat.le_refl _), Nat.sub_self]; rfl, rfl⟩
theorem dt_lstO {t : TA} {ds : List D} (h : DA K t ss mem ds m1) (hl : ds.length ≤ 16777216 := by exact Nat.le_of_ble_eq_true rfl) : DT K (tLst t) ss mem (.own m1.length) (m1 ++ [.lst ds]) := fun B H al σ Q S k =>
  h B H al σ _ S fun B1 H1 al1 vs P1 S1 r1 => by
    refine ⟨by rw [r1.len, sizeLine_eq]; exact hl, fun p np => ?_⟩
    obtain ⟨P, S'⟩ := S1.layOwn (o := .lst vs) (m := .lst ds) np ⟨S1.sub.free np, vs, upd_same, r1⟩
    exact k _ _ _ _ (P1.trans P) S' (own_last S1 p)
theorem do_none : DO K tNoPart ss mem none mem := fun B H al σ Q S k => k _ _ _ (Stp.refl _ _ _) S
theorem do_some (h : DT K te ss mem (.dat (.int i)) m1) : DO K (tPart te) ss mem (some i) m1 := fun B H al σ Q S k =>
  h B H al σ _ S fun B1 H1 al1 v P1 S1 r1 => by
    cases r1
    exact ⟨i, rfl, k _ _ _ P1 S1⟩
def cutD (ds : List D) (lo hi : Option Int) : List D := (ds.drop (HT.sIx ds.length 0 lo)).take (HT.sIx ds.length ds.length hi - HT.sIx ds.length 0 lo)
theorem cut_rep {B : Hp} {vs : List V} {ds : List D} {lo hi : Option Int} (h : RepAll K B vs ds) : RepAll K B (cutV vs lo hi) (cutD ds lo hi) := by
  unfold cutV cutD
  rw [h.len]
  exact RepAll.take _ (RepAll.drop _ h)
theorem dt_slT {tl th : TO} {lo hi : Option Int} {ds : List D} (h : DT K te ss mem (.dat (.tup ds)) m1) (hl : DO K tl ss m1 lo m2) (hh : DO K th ss m2 hi m3) : DT K (tSl (rSlA K) te tl th) ss mem (.dat (.tup (cutD ds lo hi))) m3 := fun B H al σ Q S k =>
  h B H al σ _ S fun B1 H1 al1 v P1 S1 r1 => hl B1 H1 al1 σ _ S1 fun B2 H2 al2 P2 S2 => hh B2 H2 al2 σ _ S2 fun B3 H3 al3 P3 S3 => by
    have r3 := Rep.mono (P2.trans P3).same _ r1
    cases r3 with
    | @tup a xs _ s r =>
      refine ⟨a, xs, rfl, S3.seqT (SqT.of s), fun z => ?_, fun z p np => ?_⟩
      · have e : cutD ds lo hi = ds := by
          unfold cutD
          rw [r.len] at z
          rw [z.1, z.2]
          exact List.take_length
        rw [e] at k
        exact k _ _ _ _ ((P1.trans P2).trans P3) S3 (.tup s r)
      · obtain ⟨P, S'⟩ := S3.lay (o := .tup (cutV xs lo hi)) np
        exact k _ _ _ _ (((P1.trans P2).trans P3).trans P) S' (.tup upd_same (RepAll.mono P.same _ (cut_rep r)))
theorem dt_slL {tl th : TO} {lo hi : Option Int} {ds : List D} (h : DT K te ss mem (.dat (.lst ds)) m1) (hl : DO K tl ss m1 lo m2) (hh : DO K th ss m2 hi m3) : DT K (tSl (rSlL K) te tl th) ss mem (.dat (.lst (cutD ds lo hi))) m3 := fun B H al σ Q S k =>
  h B H al σ _ S fun B1 H1 al1 v P1 S1 r1 => hl B1 H1 al1 σ _ S1 fun B2 H2 al2 P2 S2 => hh B2 H2 al2 σ _ S2 fun B3 H3 al3 P3 S3 => by
    have r3 := Rep.mono (P2.trans P3).same _ r1
    cases r3 with
    | @lst a xs _ s r =>
      refine ⟨a, xs, rfl, S3.seqL s, fun p np => ?_⟩
      obtain ⟨P, S'⟩ := S3.lay (o := .lst (cutV xs lo hi)) np
      exact k _ _ _ _ (((P1.trans P2).trans P3).trans P) S' (.lst (SqL.of upd_same) (RepAll.mono P.same _ (cut_rep r)))
/-! objects -/
theorem dt_fld {C : Addr} {gs : List (Str × D)} {f : Str} (h : DT K te ss mem (.dat (.obj C gs)) m1) (c : Cls K C) (n : NoAttr K C f) (hf : gs.lookup f = some d) : DT K (tFld K te f) ss mem (.dat d) m1 := fun B H al σ Q S k =>
  h B H al σ _ S fun B1 H1 al1 v P1 S1 r1 => by
    cases r1 with
    | @obj a _ dx fs _ s r =>
      obtain ⟨x, h1, h2⟩ := r.look hf
      exact ⟨a, C, dx, fs, x, rfl, S1.sub _ _ s, c, n, h1, k _ _ _ _ P1 S1 h2⟩
theorem dt_fldO {C : Addr} {n : Nat} {gs : List (Str × D)} {f : Str} (h : DT K te ss mem (.own n) m1) (hm : m1[n]? = some (.obj C gs)) (c : Cls K C) (na : NoAttr K C f) (hf : gs.lookup f = some d) : DT K (tFld K te f) ss mem (.dat d) m1 := fun B H al σ Q S k =>
  h B H al σ _ S fun B1 H1 al1 v P1 S1 r1 => by
    obtain ⟨a, a1, rfl⟩ := r1
    obtain ⟨_, dx, fs, a2, a3⟩ := S1.mem n a _ a1 hm
    obtain ⟨x, h1, h2⟩ := a3.look hf
    exact ⟨a, C, dx, fs, x, rfl, a2, c, na, h1, k _ _ _ _ P1 S1 h2⟩
theorem dt_prop {C : Addr} {gs : List (Str × D)} {f : Str} {E : XK} (h : DT K te ss mem (.dat (.obj C gs)) m1) (hf : gs.lookup f = some d) : DT K (tProp C (getSp C f) [] E te) ss mem (.dat d) m1 := fun B H al σ Q S k =>
  h B H al σ _ S fun B1 H1 al1 v P1 S1 r1 => by
    cases r1 with
    | @obj a _ dx fs _ s r =>
      obtain ⟨x, h1, h2⟩ := r.look hf
      exact ⟨a, dx, fs, rfl, S1.sub _ _ s, a, dx, fs, x, rfl, S1.sub _ _ s, h1, k _ _ _ _ P1 S1 h2⟩
/-! an own object becomes data -/
theorem Sit.frz {B H : Hp} {al : List Addr} {σ : L2.St} (S : Sit K B H al σ ss mem) {n : Nat} {v : V} {ds : List D} (hv : VlOk K B al v (.own n)) (hm : mem[n]? = some (.lst ds)) :
    ∃ B', Stp B H al B' H al ∧ Sit K B' H al σ ss (mem.set n .gone) ∧ Rep K B' v (.lst ds) := by
  obtain ⟨a, a1, rfl⟩ := hv
  obtain ⟨b0, xs, a2, a3⟩ := S.mem n a _ a1 hm
  obtain ⟨P, S'⟩ := S.freeze a1 b0 a2
  exact ⟨_, P, S', .lst (SqL.of upd_same) (RepAll.mono P.same ds a3)⟩
theorem dt_frz {n : Nat} {ds : List D} (h : DT K te ss mem (.own n) m1) (hm : m1[n]? = some (.lst ds)) : DT K te ss mem (.dat (.lst ds)) (m1.set n .gone) := fun B H al σ Q S k =>
  h B H al σ _ S fun B1 H1 al1 v P1 S1 r1 => by
    obtain ⟨B2, P2, S2, r2⟩ := S1.frz r1 hm
    exact k _ _ _ _ (P1.trans P2) S2 r2
/-- a new own object that is let go -/
theorem dt_drop {m : Mc} (h : DT K te ss mem (.dat d) (m1 ++ [m])) (hs : ∀ (i n : Nat), ss[i]? = some (some (Vl.own n)) → n < m1.length) (hl : mem.length ≤ m1.length) : DT K te ss mem (.dat d) m1 := fun B H al σ Q S k =>
  h B H al σ _ S fun B1 H1 al1 v P1 S1 r1 => k _ _ _ v (P1.drop m1.length (by rw [S.mlen]; exact hl)) (S1.drop hs) r1
end
end DL
end
section
set_option Elab.async false
set_option linter.all false
set_option maxRecDepth 100000
namespace DL
open PySem PySem.Spec PyProof.Rows L2
/-! ### statements -/
inductive Out where
  | nx (ss : Sl) (mem : List Mc) | rt (r : Vl) (mem : List Mc) | bk (ss : Sl) (mem : List Mc) | ct (ss : Sl) (mem : List Mc)
def OutOk (K : PySem.W.Frag) (B H : Hp) (al : List Addr) (Dn : Ends) : Out → Prop
  | .nx ss mem => ∀ σ, Sit K B H al σ ss mem → Dn.nx σ H
  | .rt r mem => ∀ σ ss v, Sit K B H al σ ss mem → VlOk K B al v r → Dn.rt v H
  | .bk ss mem => ∀ σ, Sit K B H al σ ss mem → Dn.bk σ H
  | .ct ss mem => ∀ σ, Sit K B H al σ ss mem → Dn.ct σ H
def DS (K : PySem.W.Frag) (t : TS) (ss : Sl) (mem : List Mc) (out : Out) : Prop :=
  ∀ (B H : Hp) (al : List Addr) (σ : L2.St) (Dn : Ends), Sit K B H al σ ss mem → (∀ B' H' al', Stp B H al B' H' al' → OutOk K B' H' al' Dn out) → t Dn σ H
def Out.stops : Out → Bool
  | .nx _ _ => false
  | _ => true
section
variable {K : PySem.W.Frag} {ss ss1 ss2 : Sl} {mem m1 m2 m3 m4 : List Mc} {ta tb tc te : TE} {i j : Int} {d e : D} {r r' : Vl} {t u : TS} {out : Out}
theorem ds_seq (h : DS K t ss mem (.nx ss1 m1)) (g : DS K u ss1 m1 out) : DS K (tSeq t u) ss mem out := fun B H al σ Dn S k =>
  h B H al σ { Dn with nx := u Dn } S fun B1 H1 al1 P1 σ1 S1 => g B1 H1 al1 σ1 Dn S1 fun B2 H2 al2 P2 => k _ _ _ (P1.trans P2)
theorem ds_stop (h : DS K t ss mem out) (hs : out.stops = true := by rfl) : DS K (tSeq t u) ss mem out := fun B H al σ Dn S k =>
  h B H al σ { Dn with nx := u Dn } S fun B1 H1 al1 P1 => by
    have q := k _ _ _ P1
    cases out with
    | nx _ _ => cases hs
    | rt _ _ => exact q
    | bk _ _ => exact q
    | ct _ _ => exact q
theorem ds_next : DS K tNext ss mem (.nx ss mem) := fun B H al σ Dn S k => k _ _ _ (Stp.refl _ _ _) σ S
theorem ds_if {c : TT} {b : Bool} (h : DB K c ss mem b m1) (g : if b = true then DS K t ss m1 out else DS K u ss m1 out) : DS K (tIfS c t u) ss mem out := fun B H al σ Dn S k =>
  h B H al σ _ S fun B1 H1 al1 P1 S1 => by
    cases b with
    | true => exact iteT (g B1 H1 al1 σ Dn S1 fun B2 H2 al2 P2 => k _ _ _ (P1.trans P2))
    | false => exact iteF (g B1 H1 al1 σ Dn S1 fun B2 H2 al2 P2 => k _ _ _ (P1.trans P2))
theorem ds_if_t {c : TT} (h : DB K c ss mem true m1) (g : DS K t ss m1 out) : DS K (tIfS c t u) ss mem out := ds_if h g
theorem ds_if_f {c : TT} (h : DB K c ss mem false m1) (g : DS K u ss m1 out) : DS K (tIfS c t u) ss mem out := ds_if h g
theorem ds_ret (h : DT K te ss mem r m1) : DS K (tRet te) ss mem (.rt r m1) := fun B H al σ Dn S k =>
  h B H al σ _ S fun B1 H1 al1 v P1 S1 r1 => k _ _ _ P1 σ ss v S1 r1
theorem ds_retN : DS K tRetN ss mem (.rt (.dat .non) mem) := fun B H al σ Dn S k => k _ _ _ (Stp.refl _ _ _) σ ss _ S .non
theorem ds_drop (h : DT K te ss mem r m1) : DS K (tDrop te) ss mem (.nx ss m1) := fun B H al σ Dn S k =>
  h B H al σ _ S fun B1 H1 al1 v P1 S1 r1 => k _ _ _ P1 σ S1
theorem ds_break : DS K tBreak ss mem (.bk ss mem) := fun B H al σ Dn S k => k _ _ _ (Stp.refl _ _ _) σ S
theorem ds_cont : DS K tCont ss mem (.ct ss mem) := fun B H al σ Dn S k => k _ _ _ (Stp.refl _ _ _) σ S
theorem ds_set {i : Nat} (h : DT K te ss mem r m1) : DS K (tAsg te (gName i)) ss mem (.nx (ss.set i (some r)) m1) := fun B H al σ Dn S k =>
  h B H al σ _ S fun B1 H1 al1 v P1 S1 r1 => k _ _ _ P1 _ (S1.put fun q e => by cases e; exact r1)
/-- the first own slots and objects are let go (behind a block) -/
theorem ds_less {more : List Mc} (h : DS K t ss mem (.nx ss1 (m1 ++ more))) (hl : ss2.length = ss1.length) (hs : ∀ (i : Nat) (r : Vl), ss2[i]? = some (some r) → ss1[i]? = some (some r))
    (ho : ∀ (i n : Nat), ss2[i]? = some (some (Vl.own n)) → n < m1.length) (hm : mem.length ≤ m1.length) : DS K t ss mem (.nx ss2 m1) := fun B H al σ Dn S k =>
  h B H al σ Dn S fun B1 H1 al1 P1 σ1 S1 => k _ _ _ (P1.drop m1.length (by rw [S.mlen]; exact hm)) σ1 ((S1.less hl hs).drop ho)
/-- slots are let go -/
theorem ds_forget (h : DS K t ss mem (.nx ss1 m1)) (hl : ss2.length = ss1.length) (hs : ∀ (i : Nat) (r : Vl), ss2[i]? = some (some r) → ss1[i]? = some (some r)) : DS K t ss mem (.nx ss2 m1) := fun B H al σ Dn S k =>
  h B H al σ Dn S fun B1 H1 al1 P1 σ1 S1 => k _ _ _ P1 σ1 (S1.less hl hs)
/-- an own list at a slot becomes data, ahead of a statement -/
theorem Sit.frzSlot {B H : Hp} {al : List Addr} {σ : L2.St} (S : Sit K B H al σ ss mem) {i n : Nat} {ds : List D} (hi : ss[i]? = some (some (.own n))) (hm : mem[n]? = some (.lst ds)) :
    ∃ B', Stp B H al B' H al ∧ Sit K B' H al σ (ss.set i (some (.dat (.lst ds)))) (mem.set n .gone) := by
  obtain ⟨v, h1, h2⟩ := S.slot i _ hi
  obtain ⟨B', P, S', r⟩ := S.frz h2 hm
  refine ⟨B', P, S'.sub, by rw [List.length_set]; exact S'.len, fun j q e => ?_, S'.mlen, S'.mem, S'.nd, S'.there⟩
  by_cases hj : j = i
  · subst hj
    have hl : j < ss.length := (List.getElem?_eq_some_iff.mp hi).1
    rw [List.getElem?_set_self hl] at e
    have e' := Option.some.inj (Option.some.inj e)
    subst e'
    exact ⟨v, h1, r⟩
  · rw [List.getElem?_set_ne (Ne.symm hj)] at e
    exact S'.slot j q e
theorem ds_frz {n : Nat} {ds : List D} (i : Nat) (hi : ss[i]? = some (some (.own n))) (hm : mem[n]? = some (.lst ds)) (h : DS K t (ss.set i (some (.dat (.lst ds)))) (mem.set n .gone) out) : DS K t ss mem out := fun B H al σ Dn S k => by
  obtain ⟨B1, P1, S1⟩ := S.frzSlot hi hm
  exact h B1 H al σ Dn S1 fun B2 H2 al2 P2 => k _ _ _ (P1.trans P2)

/-! ### targets -/
def DG (K : PySem.W.Frag) (g : TG) (ss : Sl) (d : D) (ss' : Sl) (ws : List Nat) : Prop :=
  ∀ (B H : Hp) (al : List Addr) (σ : L2.St) (mem : List Mc) (v : V) (Q : L2.St → Hp → Prop), Sit K B H al σ ss mem → Rep K B v d →
    (∀ σ', Sit K B H al σ' ss' mem → (∀ vs : List Nat, (∀ w ∈ ws, w ∈ vs) → wipe σ' vs = wipe σ vs) → Q σ' H) → g v σ H Q
def DGs (K : PySem.W.Frag) (g : TGs) (ss : Sl) (ds : List D) (ss' : Sl) (ws : List Nat) : Prop :=
  ∀ (B H : Hp) (al : List Addr) (σ : L2.St) (mem : List Mc) (vs : List V) (Q : L2.St → Hp → Prop), Sit K B H al σ ss mem → RepAll K B vs ds →
    (∀ σ', Sit K B H al σ' ss' mem → (∀ us : List Nat, (∀ w ∈ ws, w ∈ us) → wipe σ' us = wipe σ us) → Q σ' H) → g vs σ H Q
theorem wipe_in {σ : L2.St} {i : Nat} : ∀ {vs : List Nat}, i ∈ vs → (wipe σ vs)[i]? = if i < σ.length then some none else none
  | [], h => by cases h
  | v :: vs, h => by
    unfold wipe
    by_cases e : v = i
    · subst e
      by_cases hl : v < σ.length
      · rw [if_pos hl, List.getElem?_set_self (by rw [wipe_length]; exact hl)]
      · rw [if_neg hl, List.getElem?_eq_none (by rw [List.length_set, wipe_length]; omega)]
    · rw [List.getElem?_set_ne e]
      exact wipe_in (by
        rcases List.mem_cons.mp h with z | z
        · exact absurd z.symm e
        · exact z)
theorem wipe_set {σ : L2.St} {i : Nat} {x : Option V} {vs : List Nat} (h : i ∈ vs) : wipe (σ.set i x) vs = wipe σ vs := by
  apply List.ext_getElem?
  intro j
  by_cases hj : j ∈ vs
  · rw [wipe_in hj, wipe_in hj, List.length_set]
  · rw [wipe_out hj, wipe_out hj, List.getElem?_set_ne (fun (z : i = j) => hj (by rw [← z]; exact h))]
theorem dg_name {i : Nat} : DG K (gName i) ss d (ss.set i (some (.dat d))) [i] := fun B H al σ mem v Q S r k =>
  k _ (S.put fun q e => by cases e; exact r) fun vs h => wipe_set (h i List.mem_cons_self)
theorem dgs_nil : DGs K gNil ss [] ss [] := fun B H al σ mem vs Q S r k => by
  cases r
  exact ⟨rfl, k σ S fun _ _ => rfl⟩
theorem dgs_cons {g : TG} {gs : TGs} {ds : List D} {w1 w2 : List Nat} (h1 : DG K g ss d ss1 w1) (h2 : DGs K gs ss1 ds ss2 w2) : DGs K (gCons g gs) ss (d :: ds) ss2 (w1 ++ w2) := fun B H al σ mem vs Q S r k => by
  cases r with
  | cons r1 r2 =>
    exact ⟨_, _, rfl, h1 B H al σ mem _ _ S r1 fun σ1 S1 k1 => h2 B H al σ1 mem _ _ S1 r2 fun σ2 S2 k2 => k σ2 S2 fun us h =>
      (k2 us fun w hw => h w (List.mem_append_right _ hw)).trans (k1 us fun w hw => h w (List.mem_append_left _ hw))⟩
theorem dg_tup {gs : TGs} {n : Nat} {ds : List D} {ws : List Nat} (h : DGs K gs ss ds ss1 ws) (hn : ds.length = n) : DG K (gTup K n gs) ss (.tup ds) ss1 ws := fun B H al σ mem v Q S r k => by
  cases r with
  | tup s ra => exact ⟨_, _, rfl, S.seqT (SqT.of s), by rw [ra.len]; exact hn, h B H al σ mem _ _ S ra k⟩
theorem ds_asg {g : TG} {ws : List Nat} (h : DT K te ss mem (.dat d) m1) (hg : DG K g ss d ss1 ws) : DS K (tAsg te g) ss mem (.nx ss1 m1) := fun B H al σ Dn S k =>
  h B H al σ _ S fun B1 H1 al1 v P1 S1 r1 => hg B1 H1 al1 σ _ v _ S1 r1 fun σ' S' _ => k _ _ _ P1 σ' S'
theorem ds_par {i j : Nat} {ta : TA} (h : DA K ta ss mem [d, e] m1) : DS K (tPar i j ta) ss mem (.nx ((ss.set i (some (.dat d))).set j (some (.dat e))) m1) := fun B H al σ Dn S k =>
  h B H al σ _ S fun B1 H1 al1 vs P1 S1 r1 => by
    cases r1 with
    | cons r1 r2 =>
      cases r2 with
      | cons r2 r3 =>
        cases r3
        exact ⟨_, _, rfl, k _ _ _ P1 _ ((S1.put fun q e => by cases e; exact r1).put fun q e => by cases e; exact r2)⟩
/-- xs[k] = e, xs own -/
theorem ds_setitem {to ti : TE} {n p : Nat} {ds : List D} {k : Int} (h : DT K te ss mem (.dat d) m1) (ho : DT K to ss m1 (.own n) m2) (hi : DT K ti ss m2 (.dat (.int k)) m3) (hm : m3[n]? = some (.lst ds)) (hk : ixN ds.length k = some p) :
    DS K (tAsg te (gSub to ti rSetL)) ss mem (.nx ss (m3.set n (.lst (ds.set p d)))) := fun B H al σ Dn S q =>
  h B H al σ _ S fun B1 H1 al1 v P1 S1 r1 => ho B1 H1 al1 σ _ S1 fun B2 H2 al2 o P2 S2 r2 => hi B2 H2 al2 σ _ S2 fun B3 H3 al3 x P3 S3 r3 => by
    cases r3
    obtain ⟨a, a1, rfl⟩ := r2.step P3
    obtain ⟨b0, xs, a2, a3⟩ := S3.mem n a _ a1 hm
    obtain ⟨P4, S4⟩ := S3.write (o := .lst (xs.set p v)) (m := .lst (ds.set p d)) a1 b0 ⟨b0, _, upd_same, RepAll.set (Rep.mono (P2.trans P3).same d r1) p a3⟩
    exact ⟨a, xs, k, p, rfl, rfl, a2, by rw [a3.len]; exact hk, q _ _ _ (((P1.trans P2).trans P3).trans P4) σ S4⟩
/-- xs.append(e), xs own -/
theorem dt_append {to : TE} {t : TA} {n : Nat} {ds : List D} (ho : DT K to ss mem (.own n) m1) (h : DA K t ss m1 [d] m2) (hm1 : m1[n]? = some (.lst ds)) (hm : m2[n]? = some (.lst ds)) (hl : ds.length < 16777216) :
    DT K (tBM K "list" rAppend to t) ss mem (.dat .non) (m2.set n (.lst (ds ++ [d]))) := fun B H al σ Q S k =>
  ho B H al σ _ S fun B1 H1 al1 v P1 S1 r1 => by
    obtain ⟨a, a1, rfl⟩ := r1
    obtain ⟨_, xs, a2, a3⟩ := S1.mem n a _ a1 hm1
    refine ⟨.inl ⟨rfl, xs, SqL.of a2⟩, h B1 H1 al1 σ _ S1 fun B2 H2 al2 vs P2 S2 r2 => ?_⟩
    cases r2 with
    | cons r2 r3 =>
      cases r3
      have a1' := P2.get a1
      obtain ⟨b0, ys, c2, c3⟩ := S2.mem n a _ a1' hm
      obtain ⟨P3, S3⟩ := S2.write (o := .lst (ys ++ [_])) (m := .lst (ds ++ [d])) a1' b0 ⟨b0, _, upd_same, c3.append (.cons r2 .nil)⟩
      exact ⟨a, ys, _, rfl, rfl, c2, by rw [c3.len, sizeLine_eq]; exact hl, k _ _ _ _ ((P1.trans P2).trans P3) S3 .non⟩
theorem RepFs.put {B : Hp} {f : Str} {v : V} {d : D} (r : Rep K B v d) : ∀ {gs : List (Str × D)} {fs : List (Str × V)}, RepFs K B fs gs → RepFs K B (putF f v fs) (putD f d gs)
  | [], _, h => by cases h; exact .cons r .nil
  | (g, x) :: gs, _, h => by
    cases h with
    | cons h1 h2 =>
      show RepFs K B (if g = f then _ else _) (if g = f then _ else _)
      by_cases e : g = f
      · rw [if_pos e, if_pos e]
        exact .cons r h2
      · rw [if_neg e, if_neg e]
        exact .cons h1 (RepFs.put r h2)
/-- o.f = e, o own -/
theorem ds_fld {C : Addr} {n : Nat} {f : Str} {gs : List (Str × D)} (h : DT K te ss mem (.dat d) m1) (ho : DT K ta ss m1 (.own n) m2) (hm : m2[n]? = some (.obj C gs)) (c : Cls K C) (na : NoAttr K C f) (hl : gs.length < 1000) :
    DS K (sFld K ta te f) ss mem (.nx ss (m2.set n (.obj C (putD f d gs)))) := fun B H al σ Dn S q =>
  h B H al σ _ S fun B1 H1 al1 v P1 S1 r1 => ho B1 H1 al1 σ _ S1 fun B2 H2 al2 o P2 S2 r2 => by
    obtain ⟨a, a1, rfl⟩ := r2
    obtain ⟨b0, dx, fv, a2, a3⟩ := S2.mem n a _ a1 hm
    obtain ⟨P3, S3⟩ := S2.write (o := .ins C dx (putF f v fv)) (m := .obj C (putD f d gs)) a1 b0 ⟨b0, dx, _, upd_same, a3.put (Rep.mono P2.same d r1)⟩
    exact ⟨a, C, dx, fv, rfl, a2, c, na, by rw [a3.len]; exact hl, q _ _ _ ((P1.trans P2).trans P3) σ S3⟩

/-! ### what is walked -/
/-- n turns, the i-th of which yields the data it i -/
def Walks (K : PySem.W.Frag) (B1 : Hp) (J : It) (n : Nat) (it : Nat → D) : Prop :=
  ∀ (B H : Hp) (al : List Addr) (σ : L2.St) (ss : Sl) (mem : List Mc), Same B1 B → Sit K B H al σ ss mem →
    (∀ i, i < n → J.go i H ∧ ∀ x H', J.yld i H x H' → ∃ B', Stp B H al B' H' al ∧ Sit K B' H' al σ ss mem ∧ Rep K B' x (it i)) ∧ (∀ i, n ≤ i → J.stop i H)
def DI (K : PySem.W.Frag) (wi : TI) (ss : Sl) (mem : List Mc) (n : Nat) (it : Nat → D) (mem' : List Mc) : Prop :=
  ∀ (B H : Hp) (al : List Addr) (σ : L2.St) (R : It → Hp → Prop), Sit K B H al σ ss mem → (∀ B' H' al' J, Stp B H al B' H' al' → Sit K B' H' al' σ ss mem' → Walks K B' J n it → R J H') → wi σ H R
theorem walks_range (B : Hp) (lo : Int) (n : Nat) : Walks K B (Itr lo n) n fun i => .int (lo + i) := fun B1 H al σ ss mem e S =>
  ⟨fun i hi => ⟨hi, fun x H' y => by
    obtain ⟨rfl, rfl⟩ := y
    exact ⟨B1, Stp.refl _ _ _, S, .int _⟩⟩, fun i hi => hi⟩
def nthD (ds : List D) (i : Nat) : D := ds.getD i .non
theorem nthD_get {ds : List D} {i : Nat} (h : i < ds.length) : ds[i]? = some (nthD ds i) := by
  unfold nthD
  rw [List.getD_eq_getElem?_getD, List.getElem?_eq_getElem h]
  rfl
theorem walks_list {B : Hp} {a : Addr} {xs : List V} {ds : List D} (s : SqL K B a xs) (r : RepAll K B xs ds) : Walks K B (Itl K a) ds.length (nthD ds) := fun B1 H al σ ss mem e S => by
  have s1 : SqL K H a xs := S.seqL (e.seq s)
  refine ⟨fun i hi => ?_, fun i hi => ⟨xs, s1, by rw [r.len]; exact hi⟩⟩
  obtain ⟨v, h1, h2⟩ := r.get (nthD_get hi)
  exact ⟨⟨xs, v, s1, h1⟩, fun x H' y => by
    obtain ⟨rfl, y⟩ := y
    have q := y xs s1
    rw [h1] at q
    cases q
    exact ⟨B1, Stp.refl _ _ _, S, Rep.mono e _ h2⟩⟩
theorem walks_tup {B : Hp} {a : Addr} {xs : List V} {ds : List D} (s : SqT K B a xs) (r : RepAll K B xs ds) : Walks K B (Itt K a) ds.length (nthD ds) := fun B1 H al σ ss mem e S => by
  have s1 : SqT K H a xs := S.seqT (sameT e s)
  refine ⟨fun i hi => ?_, fun i hi => ⟨xs, s1, by rw [r.len]; exact hi⟩⟩
  obtain ⟨v, h1, h2⟩ := r.get (nthD_get hi)
  exact ⟨⟨xs, v, s1, h1⟩, fun x H' y => by
    obtain ⟨rfl, y⟩ := y
    have q := y xs s1
    rw [h1] at q
    cases q
    exact ⟨B1, Stp.refl _ _ _, S, Rep.mono e _ h2⟩⟩
theorem di_rng1 {t : TA} {j : Int} (h : DA K t ss mem [.int j] m1) (h1 : -(2 ^ 62) ≤ j) (h2 : j < 2 ^ 62) : DI K (iRng1 t) ss mem j.toNat (fun i => .int (0 + i)) m1 := fun B H al σ R S k =>
  h B H al σ _ S fun B1 H1 al1 vs P1 S1 r1 => by
    cases r1 with
    | cons r1 r2 =>
      cases r2
      cases r1
      exact ⟨j, rfl, h1, h2, k _ _ _ _ P1 S1 (walks_range _ _ _)⟩
theorem di_rng2 {t : TA} {i j : Int} (h : DA K t ss mem [.int i, .int j] m1) (hb : -(2 ^ 62) ≤ i ∧ i < 2 ^ 62 ∧ -(2 ^ 62) ≤ j ∧ j < 2 ^ 62) : DI K (iRng2 t) ss mem (j - i).toNat (fun k => .int (i + k)) m1 := fun B H al σ R S k =>
  h B H al σ _ S fun B1 H1 al1 vs P1 S1 r1 => by
    cases r1 with
    | cons r1 r2 =>
      cases r2 with
      | cons r2 r3 =>
        cases r3
        cases r1
        cases r2
        exact ⟨i, j, rfl, hb, k _ _ _ _ P1 S1 (walks_range _ _ _)⟩
theorem di_list {ds : List D} (h : DT K te ss mem (.dat (.lst ds)) m1) : DI K (iList K te) ss mem ds.length (nthD ds) m1 := fun B H al σ R S k =>
  h B H al σ _ S fun B1 H1 al1 v P1 S1 r1 => by
    cases r1 with
    | lst s r => exact ⟨_, rfl, ⟨_, S1.seqL s⟩, k _ _ _ _ P1 S1 (walks_list s r)⟩
theorem di_tup {ds : List D} (h : DT K te ss mem (.dat (.tup ds)) m1) : DI K (iTup K te) ss mem ds.length (nthD ds) m1 := fun B H al σ R S k =>
  h B H al σ _ S fun B1 H1 al1 v P1 S1 r1 => by
    cases r1 with
    | tup s r => exact ⟨_, rfl, ⟨_, S1.seqT (SqT.of s)⟩, k _ _ _ _ P1 S1 (walks_tup (SqT.of s) r)⟩
/-- behind a piece that keeps all but these own objects -/
theorem Sit.back {B H B' H' : Hp} {al al' : List Addr} {σ σ2 : L2.St} {ss2 : Sl} (S : Sit K B H al σ ss mem) (P : Stp B H al B' H' al') (S' : Sit K B' H' al' σ2 ss2 m2) : Sit K B' H' al' σ ss m2 :=
  ⟨S'.sub, S.len, fun i r e => by
    obtain ⟨v, h1, h2⟩ := S.slot i r e
    exact ⟨v, h1, h2.step P⟩, S'.mlen, S'.mem, S'.nd, S'.there⟩

/-- for: the turns up to j, then the end, or a turn that leaves the loop -/
theorem ds_for {wi : TI} {g : TG} {tb : TS} {n : Nat} {it : Nat → D} (hi : DI K wi ss mem n it m1) (f : Nat → Sl) (m : Nat → List Mc) (f0 : f 0 = ss) (m0 : m 0 = m1) (j : Nat) (hj : j ≤ n)
    (step : ∀ i, i < j → ∃ ss' ws, DG K g (f i) (it i) ss' ws ∧ (DS K tb ss' (m i) (.nx (f (i + 1)) (m (i + 1))) ∨ DS K tb ss' (m i) (.ct (f (i + 1)) (m (i + 1)))))
    (last : (j = n ∧ out = .nx (f n) (m n)) ∨ (j < n ∧ ∃ ss' ws, DG K g (f j) (it j) ss' ws ∧ ((∃ r m', DS K tb ss' (m j) (.rt r m') ∧ out = .rt r m') ∨ (∃ s' m', DS K tb ss' (m j) (.bk s' m') ∧ out = .nx s' m')))) :
    DS K (tFor wi g tb) ss mem out := fun B H al σ Dn S k =>
  hi B H al σ _ S fun B1 H1 al1 J P1 S1 wk => by
    refine ⟨fun i k σ' H' => k = n - i ∧ i ≤ j ∧ ∃ B' al', Stp B1 H1 al1 B' H' al' ∧ Sit K B' H' al' σ' (f i) (m i), ⟨n, by simp, Nat.zero_le _, B1, al1, Stp.refl _ _ _, by rw [f0, m0]; exact S1⟩, ?_⟩
    rintro i q σ' H' ⟨rfl, hij, B', al', P', S'⟩
    obtain ⟨w1, w2⟩ := wk B' H' al' σ' _ _ P'.same S'
    by_cases hlt : i < j
    · obtain ⟨hg, hy⟩ := w1 i (by omega)
      obtain ⟨ss', ws, dg, ds⟩ := step i hlt
      refine .inr ⟨hg, fun σ2 H2 => ∃ B2 al2, Stp B1 H1 al1 B2 H2 al2 ∧ Sit K B2 H2 al2 σ2 (f (i + 1)) (m (i + 1)), fun σ2 H2 w => ⟨n - (i + 1), by omega, rfl, hlt, w⟩, fun x H2 y => ?_⟩
      obtain ⟨B2, P2, S2, r2⟩ := hy x H2 y
      refine dg B2 H2 al' σ' _ x _ S2 r2 fun σ3 S3 _ => ?_
      rcases ds with ds | ds
      · exact ds B2 H2 al' σ3 _ S3 fun B4 H4 al4 P4 σ4 S4 => ⟨B4, al4, (P'.trans P2).trans P4, S4⟩
      · exact ds B2 H2 al' σ3 _ S3 fun B4 H4 al4 P4 σ4 S4 => ⟨B4, al4, (P'.trans P2).trans P4, S4⟩
    · have ei : i = j := by omega
      subst ei
      rcases last with ⟨e1, e2⟩ | ⟨hn, ss', ws, dg, ds⟩
      · subst e1 e2
        exact .inl ⟨w2 _ (Nat.le_refl _), k _ _ _ (P1.trans P') σ' S'⟩
      · obtain ⟨hg, hy⟩ := w1 i hn
        refine .inr ⟨hg, fun _ _ => False, fun _ _ z => z.elim, fun x H2 y => ?_⟩
        obtain ⟨B2, P2, S2, r2⟩ := hy x H2 y
        refine dg B2 H2 al' σ' _ x _ S2 r2 fun σ3 S3 _ => ?_
        rcases ds with ⟨r, m', ds, e⟩ | ⟨s', m', ds, e⟩
        · subst e
          exact ds B2 H2 al' σ3 _ S3 fun B4 H4 al4 P4 => k _ _ _ ((P1.trans (P'.trans P2)).trans P4)
        · subst e
          exact ds B2 H2 al' σ3 _ S3 fun B4 H4 al4 P4 => k _ _ _ ((P1.trans (P'.trans P2)).trans P4)
/-- a for that runs through -/
theorem ds_for_all {wi : TI} {g : TG} {tb : TS} {n : Nat} {it : Nat → D} (hi : DI K wi ss mem n it m1) (f : Nat → Sl) (m : Nat → List Mc) (f0 : f 0 = ss) (m0 : m 0 = m1)
    (step : ∀ i, i < n → ∃ ss' ws, DG K g (f i) (it i) ss' ws ∧ DS K tb ss' (m i) (.nx (f (i + 1)) (m (i + 1)))) : DS K (tFor wi g tb) ss mem (.nx (f n) (m n)) :=
  ds_for hi f m f0 m0 n (Nat.le_refl _) (fun i h => by
    obtain ⟨ss', ws, a, b⟩ := step i h
    exact ⟨ss', ws, a, .inl b⟩) (.inl ⟨rfl, rfl⟩)
end
end DL
end
section
set_option Elab.async false
set_option linter.all false
set_option maxRecDepth 100000
namespace DL
open PySem PySem.Spec PyProof.Rows L2
section
variable {K : PySem.W.Frag} {ss ss1 ss2 : Sl} {mem m1 m2 m3 m4 : List Mc} {ta tb tc te : TE} {i j : Int} {d e : D} {r r' : Vl} {t u : TS} {out : Out}
/-! ### comprehensions -/
def wipeS (ss : Sl) : List Nat → Sl
  | [] => ss
  | v :: vs => (wipeS ss vs).set v none
theorem Sit.wipe {B H : Hp} {al : List Addr} {σ : L2.St} (S : Sit K B H al σ ss mem) : ∀ vs : List Nat, Sit K B H al (L2.wipe σ vs) (wipeS ss vs) mem
  | [] => S
  | v :: vs => by
    have S1 := Sit.wipe S vs
    refine ⟨S1.sub, ?_, fun i r e => ?_, S1.mlen, S1.mem, S1.nd, S1.there⟩
    · show (List.set _ _ _).length = (List.set _ _ _).length
      rw [List.length_set, List.length_set]
      exact S1.len
    · have e : ((wipeS ss vs).set v none)[i]? = some (some r) := e
      show ∃ x, ((L2.wipe σ vs).set v none)[i]? = some (some x) ∧ _
      by_cases h : v = i
      · subst h
        by_cases hl : v < (wipeS ss vs).length
        · rw [List.getElem?_set_self hl] at e
          cases e
        · rw [List.getElem?_eq_none (by rw [List.length_set]; omega)] at e
          cases e
      · rw [List.getElem?_set_ne h] at e ⊢
        exact S1.slot i r e
/-- a list that stands beside the situation -/
structure Side (B H : Hp) (al : List Addr) (p : Addr) (xs : List V) : Prop where
  at_ : H p = some (.lst xs)
  nb : B p = none
  nal : p ∉ al
theorem Side.step {B H B' H' : Hp} {al al' : List Addr} {p : Addr} {xs : List V} (s : Side B H al p xs) (P : Stp B H al B' H' al') : Side B' H' al' p xs := by
  have hn : H p ≠ none := by rw [s.at_]; exact fun z => nomatch z
  refine ⟨P.frame _ _ s.at_ s.nal, ?_, fun z => ?_⟩
  · cases q : B' p with
    | none => rfl
    | some o =>
      rcases P.fresh p (by rw [q]; exact fun z => nomatch z) with z | z | z | ⟨ys, z⟩
      · exact absurd s.nb z
      · exact absurd z hn
      · exact absurd z s.nal
      · rw [s.at_] at z
        cases z
  · obtain ⟨ex, q, hx⟩ := P.ext
    rw [q] at z
    rcases List.mem_append.mp z with z | z
    · exact s.nal z
    · exact hn (hx p z)
theorem Sit.poke {B H : Hp} {al : List Addr} {σ : L2.St} {p : Addr} {xs : List V} {o : HO} (S : Sit K B H al σ ss mem) (s : Side B H al p xs) : Sit K B (upd H p o) al σ ss mem := by
  have na : ∀ a ∈ al, a ≠ p := fun a h z => s.nal (z ▸ h)
  refine ⟨fun b u e => ?_, S.len, S.slot, S.mlen, fun n a m h1 h2 => ?_, S.nd, fun a h => ?_⟩
  · rw [upd_ne (ne_of_none e s.nb)]
    exact S.sub b u e
  · have q := S.mem n a m h1 h2
    have ha := na a (List.mem_of_getElem? h1)
    cases m with
    | gone => trivial
    | lst ds =>
      obtain ⟨b0, xs, h3, h4⟩ := q
      exact ⟨b0, xs, by rw [upd_ne ha]; exact h3, h4⟩
    | obj C fs =>
      obtain ⟨b0, dx, fv, h3, h4⟩ := q
      exact ⟨b0, dx, fv, by rw [upd_ne ha]; exact h3, h4⟩
    | dic ds =>
      obtain ⟨b0, kv, h3, h4⟩ := q
      exact ⟨b0, kv, by rw [upd_ne ha]; exact h3, h4⟩
  · rw [upd_ne (na a h)]
    exact S.there a h
theorem Stp.poke {B H B' H' : Hp} {al al' : List Addr} {p : Addr} {o : HO} (P : Stp B H al B' H' al') (np : H p = none) : Stp B H al B' (upd H' p o) al' := by
  have hn : ∀ b, H b ≠ none → b ≠ p := fun b h e => h (e ▸ np)
  refine ⟨P.same, fun b u e z => ?_, P.fresh, fun b h => ?_, P.ext⟩
  · rw [upd_ne (ne_of_none e np)]
    exact P.frame b u e z
  · rw [upd_ne (hn b h)]
    exact P.stay b h
/-- the side list becomes data -/
theorem Sit.side {B0 H0 B H : Hp} {al0 al : List Addr} {σ : L2.St} {p : Addr} {xs : List V} {ds : List D} (S : Sit K B H al σ ss mem) (P : Stp B0 H0 al0 B H al) (s : Side B H al p xs) (np : H0 p = none) (r : RepAll K B xs ds) :
    Stp B0 H0 al0 (upd B p (.lst xs)) H al ∧ Sit K (upd B p (.lst xs)) H al σ ss mem ∧ Rep K (upd B p (.lst xs)) (.ref p) (.lst ds) := by
  have sB : Same B (upd B p (.lst xs)) := fun b u e => by rw [upd_ne (ne_of_none e s.nb)]; exact e
  have na : ∀ a ∈ al, a ≠ p := fun a h z => s.nal (z ▸ h)
  have P1 : Stp B H al (upd B p (.lst xs)) H al → True := fun _ => trivial
  refine ⟨⟨P.same.trans sB, P.frame, fun b h => ?_, P.stay, P.ext⟩, ⟨fun b u e => ?_, S.len, fun i r e => ?_, S.mlen, fun n a m h1 h2 => ?_, S.nd, S.there⟩, .lst (SqL.of upd_same) (RepAll.mono sB ds r)⟩
  · by_cases e : b = p
    · exact .inr (.inl (e ▸ np))
    · rw [upd_ne e] at h
      exact P.fresh b h
  · by_cases q : b = p
    · subst q
      rw [upd_same] at e
      exact s.at_.trans e
    · rw [upd_ne q] at e
      exact S.sub b u e
  · obtain ⟨v, h1, h2⟩ := S.slot i r e
    refine ⟨v, h1, ?_⟩
    cases r with
    | dat d => exact Rep.mono sB d h2
    | own n => exact h2
    | tl ds =>
      obtain ⟨x, xs, h3, h4, h5⟩ := h2
      exact ⟨x, xs, h3, sB _ _ h4, RepAll.mono sB ds h5⟩
    | lk ds =>
      obtain ⟨x, o, xs, h3, h4, h5⟩ := h2
      exact ⟨x, o, xs, h3, sB _ _ h4, RepKv.mono sB ds h5⟩
  · have q := S.mem n a m h1 h2
    have ha := na a (List.mem_of_getElem? h1)
    cases m with
    | gone => trivial
    | lst ds =>
      obtain ⟨b0, xs, h3, h4⟩ := q
      exact ⟨by rw [upd_ne ha]; exact b0, xs, h3, RepAll.mono sB ds h4⟩
    | obj C fs =>
      obtain ⟨b0, dx, fv, h3, h4⟩ := q
      exact ⟨by rw [upd_ne ha]; exact b0, dx, fv, h3, RepFs.mono sB fs h4⟩
    | dic ds =>
      obtain ⟨b0, kv, h3, h4⟩ := q
      exact ⟨by rw [upd_ne ha]; exact b0, kv, h3, RepKv.mono sB ds h4⟩
/-- the side list becomes an own one -/
theorem Sit.sideOwn {B0 H0 B H : Hp} {al0 al : List Addr} {σ : L2.St} {p : Addr} {xs : List V} {ds : List D} (S : Sit K B H al σ ss mem) (P : Stp B0 H0 al0 B H al) (s : Side B H al p xs) (np : H0 p = none) (r : RepAll K B xs ds) :
    Stp B0 H0 al0 B H (al ++ [p]) ∧ Sit K B H (al ++ [p]) σ ss (mem ++ [.lst ds]) := by
  obtain ⟨ex, q, hx⟩ := P.ext
  refine ⟨⟨P.same, P.frame, P.fresh, P.stay, ex ++ [p], by rw [q, List.append_assoc], fun a h => ?_⟩, ⟨S.sub, S.len, fun i r e => ?_, by rw [List.length_append, List.length_append, S.mlen]; rfl, fun n a m h1 h2 => ?_, ?_, fun a h => ?_⟩⟩
  · rcases List.mem_append.mp h with z | z
    · exact hx a z
    · rw [List.mem_singleton] at z
      exact z ▸ np
  · obtain ⟨v, h1, h2⟩ := S.slot i r e
    refine ⟨v, h1, ?_⟩
    cases r with
    | dat d => exact h2
    | own n =>
      obtain ⟨x, h3, h4⟩ := h2
      exact ⟨x, by rw [List.getElem?_append_left (List.getElem?_eq_some_iff.mp h3).1]; exact h3, h4⟩
    | tl ds => exact h2
    | lk ds => exact h2
  · by_cases hlt : n < al.length
    · rw [List.getElem?_append_left hlt] at h1
      rw [List.getElem?_append_left (S.mlen ▸ hlt)] at h2
      exact S.mem n a m h1 h2
    · have l1 : n < (al ++ [p]).length := (List.getElem?_eq_some_iff.mp h1).1
      rw [List.length_append, List.length_singleton] at l1
      have en : n = al.length := by omega
      subst en
      rw [List.getElem?_append_right (Nat.le_refl _), Nat.sub_self] at h1
      rw [List.getElem?_append_right (by rw [S.mlen]; exact Nat.le_refl _), S.mlen, Nat.sub_self] at h2
      have e1 : p = a := Option.some.inj h1
      have e2 : Mc.lst ds = m := Option.some.inj h2
      subst e1 e2
      exact ⟨s.nb, xs, s.at_, r⟩
  · rw [List.nodup_append]
    refine ⟨S.nd, List.Pairwise.cons (fun _ z => by cases z) .nil, fun a h b h2 e => ?_⟩
    rw [List.mem_singleton] at h2
    exact s.nal (h2 ▸ e ▸ h)
  · rcases List.mem_append.mp h with h | h
    · exact S.there a h
    · rw [List.mem_singleton] at h
      rw [h, s.at_]
      exact fun z => nomatch z
/-- one turn of a comprehension: from acc and these own objects to acc' -/
def LcTurn (K : PySem.W.Frag) (g : TG) (tt : TT) (te : TE) (vs : List Nat) (s0 : Sl) (d : D) (acc : List D) (m : List Mc) (acc' : List D) (m' : List Mc) : Prop :=
  ∃ s1 ws, DG K g (wipeS s0 vs) d s1 ws ∧ (∀ w ∈ ws, w ∈ vs) ∧ ((∃ mt x, DB K tt s1 m true mt ∧ DT K te s1 mt (.dat x) m' ∧ acc' = acc ++ [x]) ∨ (DB K tt s1 m false m' ∧ acc' = acc))
theorem lc_all {wi : TI} {g : TG} {tt : TT} {vs : List Nat} {n : Nat} {it : Nat → D} (hi : DI K wi ss mem n it m1) (acc : Nat → List D) (m : Nat → List Mc) (a0 : acc 0 = []) (m0 : m 0 = m1) (hlen : ∀ i, i < n → (acc i).length < 16777216)
    (step : ∀ i, i < n → LcTurn K g tt te vs ss (it i) (acc i) (m i) (acc (i + 1)) (m (i + 1))) :
    ∀ (B H : Hp) (al : List Addr) (σ : L2.St) (Q : VK), Sit K B H al σ ss mem → (∀ (p : Addr) B' H' al' xs, (∃ H1, ∃ B1 al1, Stp B H al B1 H1 al1 ∧ H1 p = none ∧ Stp B1 H1 al1 B' H' al') → Sit K B' H' al' σ ss (m n) → Side B' H' al' p xs → RepAll K B' xs (acc n) → Q (.ref p) H') → tLc wi g tt te vs σ H Q := fun B H al σ Q S k =>
  hi B H al σ _ S fun B1 H1 al1 J P1 S1 wk p np => by
    have nb : B1 p = none := S1.sub.free np
    have nal : p ∉ al1 := fun h => S1.there p h np
    have S1' : Sit K B1 (upd H1 p (.lst [])) al1 σ ss m1 := by
      have sH : Same H1 (upd H1 p (.lst [])) := fun b u e => by rw [upd_ne (ne_of_none e np)]; exact e
      exact S1.back (mem := m1) ((Stp.refl B1 H1 al1).poke np) ⟨fun b u e => sH b u (S1.sub b u e), S1.len, S1.slot, S1.mlen, fun n a m h1 h2 => by
        have q := S1.mem n a m h1 h2
        cases m with
        | gone => trivial
        | lst ds =>
          obtain ⟨b0, xs, h3, h4⟩ := q
          exact ⟨b0, xs, sH _ _ h3, h4⟩
        | obj C fs =>
          obtain ⟨b0, dx, fv, h3, h4⟩ := q
          exact ⟨b0, dx, fv, sH _ _ h3, h4⟩
        | dic ds =>
          obtain ⟨b0, kv, h3, h4⟩ := q
          exact ⟨b0, kv, sH _ _ h3, h4⟩, S1.nd, fun a h => by
            obtain ⟨o, q⟩ := Option.ne_none_iff_exists'.mp (S1.there a h)
            rw [sH a o q]
            exact fun z => nomatch z⟩
    refine ⟨fun i k H' => k = n - i ∧ i ≤ n ∧ ∃ B' al' xs, Stp B1 H1 al1 B' H' al' ∧ Sit K B' H' al' σ ss (m i) ∧ Side B' H' al' p xs ∧ RepAll K B' xs (acc i), ⟨n, by simp, Nat.zero_le _, B1, al1, [], (Stp.refl _ _ _).poke np, by rw [m0]; exact S1', ⟨upd_same, nb, nal⟩, by rw [a0]; exact .nil⟩, ?_⟩
    rintro i q H' ⟨rfl, hin, B', al', xs, P', S', sd, ra⟩
    obtain ⟨w1, w2⟩ := wk B' H' al' (wipe σ vs) _ _ P'.same (S'.wipe vs)
    by_cases hlt : i < n
    · obtain ⟨hg, hy⟩ := w1 i hlt
      obtain ⟨s1, ws, dg, hws, hcase⟩ := step i hlt
      refine .inr ⟨hg, fun H2 => ∃ B' al' xs, Stp B1 H1 al1 B' H2 al' ∧ Sit K B' H2 al' σ ss (m (i + 1)) ∧ Side B' H2 al' p xs ∧ RepAll K B' xs (acc (i + 1)), fun H2 w => ⟨n - (i + 1), by omega, rfl, hlt, w⟩, fun x H2 y => ?_⟩
      obtain ⟨B2, P2, S2, r2⟩ := hy x H2 y
      refine dg B2 H2 al' _ _ x _ S2 r2 fun σ3 S3 hwp => ⟨?_, ?_⟩
      · rw [hwp vs hws]
        apply List.ext_getElem?
        intro j
        by_cases hj : j ∈ vs
        · rw [wipe_in hj, wipe_in hj, wipe_length]
        · rw [wipe_out hj]
      · rcases hcase with ⟨mt, y, db, dt, ea⟩ | ⟨db, ea⟩
        · refine db B2 H2 al' σ3 _ S3 fun B4 H4 al4 P4 S4 => iteT (dt B4 H4 al4 σ3 _ S4 fun B5 H5 al5 v P5 S5 r5 => ?_)
          have PP := (P2.trans P4).trans P5
          have sd5 := sd.step PP
          refine ⟨xs, sd5.at_, by rw [ra.len, sizeLine_eq]; exact hlen i hlt, B5, al5, xs ++ [v], (P'.trans PP).poke np, ?_, ⟨upd_same, sd5.nb, sd5.nal⟩, ?_⟩
          · exact (S'.back PP S5).poke sd5
          · rw [ea]
            exact (RepAll.mono PP.same _ ra).append (.cons r5 .nil)
        · refine db B2 H2 al' σ3 _ S3 fun B4 H4 al4 P4 S4 => iteF ?_
          have PP := P2.trans P4
          exact ⟨B4, al4, xs, P'.trans PP, S'.back PP S4, sd.step PP, by rw [ea]; exact RepAll.mono PP.same _ ra⟩
    · have ei : i = n := by omega
      subst ei
      exact .inl ⟨w2 _ (Nat.le_refl _), k p B' H' al' xs ⟨H1, B1, al1, P1, np, P'⟩ S' sd ra⟩
/-- a list comprehension, its list as data -/
theorem dt_lc {wi : TI} {g : TG} {tt : TT} {vs : List Nat} {n : Nat} {it : Nat → D} (hi : DI K wi ss mem n it m1) (acc : Nat → List D) (m : Nat → List Mc) (a0 : acc 0 = []) (m0 : m 0 = m1) (hlen : ∀ i, i < n → (acc i).length < 16777216)
    (step : ∀ i, i < n → LcTurn K g tt te vs ss (it i) (acc i) (m i) (acc (i + 1)) (m (i + 1))) : DT K (tLc wi g tt te vs) ss mem (.dat (.lst (acc n))) (m n) := fun B H al σ Q S k =>
  lc_all hi acc m a0 m0 hlen step B H al σ Q S fun p B' H' al' xs ⟨H1, B1, al1, P1, np, P'⟩ S' sd ra => by
    obtain ⟨P2, S2, r2⟩ := S'.side P' sd np ra
    exact k _ _ _ _ (P1.trans P2) S2 r2
/-- .. as a tracked list -/
theorem dt_lcT {wi : TI} {g : TG} {tt : TT} {vs : List Nat} {n : Nat} {it : Nat → D} (hi : DI K wi ss mem n it m1) (acc : Nat → List D) (m : Nat → List Mc) (a0 : acc 0 = []) (m0 : m 0 = m1) (hlen : ∀ i, i < n → (acc i).length < 16777216)
    (step : ∀ i, i < n → LcTurn K g tt te vs ss (it i) (acc i) (m i) (acc (i + 1)) (m (i + 1))) : DT K (tLc wi g tt te vs) ss mem (.tl (acc n)) (m n) := fun B H al σ Q S k =>
  lc_all hi acc m a0 m0 hlen step B H al σ Q S fun p B' H' al' xs ⟨H1, B1, al1, P1, np, P'⟩ S' sd ra => by
    obtain ⟨P2, S2, r2⟩ := S'.side P' sd np ra
    have sB : Same B' (upd B' p (.lst xs)) := fun b u e => by rw [upd_ne (ne_of_none e sd.nb)]; exact e
    exact k _ _ _ _ (P1.trans P2) S2 ⟨p, xs, rfl, upd_same, RepAll.mono sB _ ra⟩
/-- .. as an own list -/
theorem dt_lcO {wi : TI} {g : TG} {tt : TT} {vs : List Nat} {n : Nat} {it : Nat → D} (hi : DI K wi ss mem n it m1) (acc : Nat → List D) (m : Nat → List Mc) (a0 : acc 0 = []) (m0 : m 0 = m1) (hlen : ∀ i, i < n → (acc i).length < 16777216)
    (step : ∀ i, i < n → LcTurn K g tt te vs ss (it i) (acc i) (m i) (acc (i + 1)) (m (i + 1))) : DT K (tLc wi g tt te vs) ss mem (.own (m n).length) (m n ++ [.lst (acc n)]) := fun B H al σ Q S k =>
  lc_all hi acc m a0 m0 hlen step B H al σ Q S fun p B' H' al' xs ⟨H1, B1, al1, P1, np, P'⟩ S' sd ra => by
    obtain ⟨P2, S2⟩ := S'.sideOwn P' sd np ra
    exact k _ _ _ _ (P1.trans P2) S2 (own_last S' p)
theorem db_yes : DB K tYes ss mem true mem := fun B H al σ Q S k => k _ _ _ (Stp.refl _ _ _) S
/-- [f x for x in data], nothing else touched, no test: the element by place -/
theorem dt_lcMap {wi : TI} {g : TG} {vs : List Nat} {n : Nat} {it : Nat → D} (hi : DI K wi ss mem n it m1) (f : Nat → D) (hn : n ≤ 16777216)
    (step : ∀ i, i < n → ∃ s1 ws, DG K g (wipeS ss vs) (it i) s1 ws ∧ (∀ w ∈ ws, w ∈ vs) ∧ DT K te s1 m1 (.dat (f i)) m1) : DT K (tLc wi g tYes te vs) ss mem (.dat (.lst ((List.range n).map f))) m1 := by
  have h := dt_lc (te := te) (tt := tYes) (vs := vs) (g := g) hi (fun i => (List.range i).map f) (fun _ => m1) rfl rfl (fun i h => by rw [List.length_map, List.length_range]; omega) fun i h => by
    obtain ⟨s1, ws, a, b, c⟩ := step i h
    exact ⟨s1, ws, a, b, .inl ⟨m1, f i, db_yes, c, by rw [List.range_succ, List.map_append]; rfl⟩⟩
  exact h
theorem dt_lcMapT {wi : TI} {g : TG} {vs : List Nat} {n : Nat} {it : Nat → D} (hi : DI K wi ss mem n it m1) (f : Nat → D) (hn : n ≤ 16777216)
    (step : ∀ i, i < n → ∃ s1 ws, DG K g (wipeS ss vs) (it i) s1 ws ∧ (∀ w ∈ ws, w ∈ vs) ∧ DT K te s1 m1 (.dat (f i)) m1) : DT K (tLc wi g tYes te vs) ss mem (.tl ((List.range n).map f)) m1 := by
  have h := dt_lcT (te := te) (tt := tYes) (vs := vs) (g := g) hi (fun i => (List.range i).map f) (fun _ => m1) rfl rfl (fun i h => by rw [List.length_map, List.length_range]; omega) fun i h => by
    obtain ⟨s1, ws, a, b, c⟩ := step i h
    exact ⟨s1, ws, a, b, .inl ⟨m1, f i, db_yes, c, by rw [List.range_succ, List.map_append]; rfl⟩⟩
  exact h
/-- with a test -/
theorem dt_lcIf {wi : TI} {g : TG} {tt : TT} {vs : List Nat} {n : Nat} {it : Nat → D} (hi : DI K wi ss mem n it m1) (f : Nat → D) (p : Nat → Bool) (hn : n ≤ 16777216)
    (step : ∀ i, i < n → ∃ s1 ws, DG K g (wipeS ss vs) (it i) s1 ws ∧ (∀ w ∈ ws, w ∈ vs) ∧ DB K tt s1 m1 (p i) m1 ∧ (p i = true → DT K te s1 m1 (.dat (f i)) m1)) :
    DT K (tLc wi g tt te vs) ss mem (.dat (.lst (((List.range n).filter p).map f))) m1 := by
  have h := dt_lc (te := te) (tt := tt) (vs := vs) (g := g) hi (fun i => ((List.range i).filter p).map f) (fun _ => m1) rfl rfl (fun i h => by
      have := List.length_filter_le p (List.range i)
      rw [List.length_range] at this
      rw [List.length_map]
      omega) fun i h => by
    obtain ⟨s1, ws, a, b, c, dd⟩ := step i h
    refine ⟨s1, ws, a, b, ?_⟩
    cases q : p i with
    | true =>
      rw [q] at c
      exact .inl ⟨m1, f i, c, dd q, by rw [List.range_succ, List.filter_append, List.map_append]; simp [q]⟩
    | false =>
      rw [q] at c
      exact .inr ⟨c, by rw [List.range_succ, List.filter_append, List.map_append]; simp [q]⟩
  exact h
theorem yes_ok {Q : Bool → Hp → Prop} {σ : L2.St} {H : Hp} (h : Q true H) : tYes σ H Q := h
/-- [e for a in .. for b in ..], no tests, nothing else touched -/
theorem dt_lc2 {wi wi1 : TI} {g g1 : TG} {vs vs1 : List Nat} {n n1 : Nat} {it : Nat → D} {it1 : Nat → Nat → D} (hi : DI K wi ss mem n it m1) (f : Nat → Nat → D) (hn : n * n1 ≤ 16777216) (hv : ∀ v ∈ vs1, v ∈ vs)
    (step : ∀ i, i < n → ∃ s1 ws, DG K g (wipeS ss vs) (it i) s1 ws ∧ (∀ w ∈ ws, w ∈ vs) ∧ DI K wi1 s1 m1 n1 (it1 i) m1 ∧
      ∀ j, j < n1 → ∃ s2 ws1, DG K g1 (wipeS s1 vs1) (it1 i j) s2 ws1 ∧ (∀ w ∈ ws1, w ∈ vs1) ∧ DT K te s2 m1 (.dat (f i j)) m1) :
    DT K (tLc2 wi g tYes wi1 g1 tYes te vs vs1) ss mem (.dat (.lst ((List.range n).flatMap fun i => (List.range n1).map (f i)))) m1 := fun B H al σ Q S k =>
  hi B H al σ _ S fun B1 H1 al1 J P1 S1 wk p np => by
    have nb : B1 p = none := S1.sub.free np
    have nal : p ∉ al1 := fun h => S1.there p h np
    have S1' : Sit K B1 (upd H1 p (.lst [])) al1 σ ss m1 := by
      have sH : Same H1 (upd H1 p (.lst [])) := fun b u e => by rw [upd_ne (ne_of_none e np)]; exact e
      exact ⟨fun b u e => sH b u (S1.sub b u e), S1.len, S1.slot, S1.mlen, fun n a m h1 h2 => by
        have q := S1.mem n a m h1 h2
        cases m with
        | gone => trivial
        | lst ds =>
          obtain ⟨b0, xs, h3, h4⟩ := q
          exact ⟨b0, xs, sH _ _ h3, h4⟩
        | obj C fs =>
          obtain ⟨b0, dx, fv, h3, h4⟩ := q
          exact ⟨b0, dx, fv, sH _ _ h3, h4⟩
        | dic ds =>
          obtain ⟨b0, kv, h3, h4⟩ := q
          exact ⟨b0, kv, sH _ _ h3, h4⟩, S1.nd, fun a h => by
            obtain ⟨o, q⟩ := Option.ne_none_iff_exists'.mp (S1.there a h)
            rw [sH a o q]
            exact fun z => nomatch z⟩
    have wipe2 : ∀ (τ τ' : L2.St) (us : List Nat), wipe τ' us = wipe (wipe τ us) us → wipe τ' us = wipe τ us := fun τ τ' us h => by
      rw [h]
      apply List.ext_getElem?
      intro j
      by_cases hj : j ∈ us
      · rw [wipe_in hj, wipe_in hj, wipe_length]
      · rw [wipe_out hj]
    have lenAcc : ∀ i, ((List.range i).flatMap fun i => (List.range n1).map (f i)).length = i * n1 := fun i => by
      induction i with
      | zero => simp
      | succ i ih =>
        rw [List.range_succ, List.flatMap_append, List.length_append, ih, Nat.succ_mul]
        simp
    refine ⟨fun i k H' => k = n - i ∧ i ≤ n ∧ ∃ B' al' xs, Stp B1 H1 al1 B' H' al' ∧ Sit K B' H' al' σ ss m1 ∧ Side B' H' al' p xs ∧ RepAll K B' xs ((List.range i).flatMap fun i => (List.range n1).map (f i)), ⟨n, by simp, Nat.zero_le _, B1, al1, [], (Stp.refl _ _ _).poke np, S1', ⟨upd_same, nb, nal⟩, .nil⟩, ?_⟩
    rintro i q H' ⟨rfl, hin, B', al', xs, P', S', sd, ra⟩
    obtain ⟨w1, w2⟩ := wk B' H' al' (wipe σ vs) _ _ P'.same (S'.wipe vs)
    by_cases hlt : i < n
    · obtain ⟨hg, hy⟩ := w1 i hlt
      obtain ⟨s1, ws, dg, hws, di1, step1⟩ := step i hlt
      refine .inr ⟨hg, fun H2 => ∃ B' al' xs, Stp B1 H1 al1 B' H2 al' ∧ Sit K B' H2 al' σ ss m1 ∧ Side B' H2 al' p xs ∧ RepAll K B' xs ((List.range (i + 1)).flatMap fun i => (List.range n1).map (f i)), fun H2 w => ⟨n - (i + 1), by omega, rfl, hlt, w⟩, fun x H2 y => ?_⟩
      obtain ⟨B2, P2, S2, r2⟩ := hy x H2 y
      refine dg B2 H2 al' _ _ x _ S2 r2 fun σ3 S3 hwp => ⟨wipe2 σ σ3 vs (hwp vs hws), ?_⟩
      refine yes_ok ?_
      rw [if_pos rfl]
      refine di1 B2 H2 al' σ3 _ S3 fun B3 H3 al3 J1 P3 S3' wk1 => ?_
      refine ⟨fun j k H' => k = n1 - j ∧ j ≤ n1 ∧ ∃ B' al' xs, Stp B1 H1 al1 B' H' al' ∧ Same B3 B' ∧ Sit K B' H' al' σ ss m1 ∧ Sit K B' H' al' σ3 s1 m1 ∧ Side B' H' al' p xs ∧
          RepAll K B' xs (((List.range i).flatMap fun i => (List.range n1).map (f i)) ++ (List.range j).map (f i)),
        ⟨n1, by simp, Nat.zero_le _, B3, al3, xs, P'.trans (P2.trans P3), Same.refl _, S'.back (P2.trans P3) S3', S3', sd.step (P2.trans P3), by rw [List.range_zero, List.map_nil, List.append_nil]; exact RepAll.mono (P2.trans P3).same _ ra⟩, ?_⟩
      rintro j q H4 ⟨rfl, hjn, B4, al4, ys, PA, PB, SA, SB, sd4, ra4⟩
      obtain ⟨u1, u2⟩ := wk1 B4 H4 al4 (wipe σ3 vs1) _ _ PB (SB.wipe vs1)
      by_cases hjl : j < n1
      · obtain ⟨hg1, hy1⟩ := u1 j hjl
        obtain ⟨s2, ws1, dg1, hws1, dt⟩ := step1 j hjl
        refine .inr ⟨hg1, fun H5 => ∃ B' al' xs, Stp B1 H1 al1 B' H5 al' ∧ Same B3 B' ∧ Sit K B' H5 al' σ ss m1 ∧ Sit K B' H5 al' σ3 s1 m1 ∧ Side B' H5 al' p xs ∧
          RepAll K B' xs (((List.range i).flatMap fun i => (List.range n1).map (f i)) ++ (List.range (j + 1)).map (f i)), fun H5 w => ⟨n1 - (j + 1), by omega, rfl, hjl, w⟩, fun x5 H5 y5 => ?_⟩
        obtain ⟨B5, P5, S5, r5⟩ := hy1 x5 H5 y5
        refine dg1 B5 H5 al4 _ _ x5 _ S5 r5 fun σ6 S6 hwp1 => And.intro (wipe2 σ3 σ6 vs1 (hwp1 vs1 hws1)) ?_
        refine yes_ok ?_
        rw [if_pos rfl]
        refine dt B5 H5 al4 σ6 _ S6 fun B6 H6 al6 v P6 S7 r6 => ?_
        have PP := P5.trans P6
        have sd6 := sd4.step PP
        have hl : (((List.range i).flatMap fun i => (List.range n1).map (f i)) ++ (List.range j).map (f i)).length < 16777216 := by
          rw [List.length_append, lenAcc, List.length_map, List.length_range]
          have h1 : (i + 1) * n1 ≤ n * n1 := Nat.mul_le_mul_right _ hlt
          rw [Nat.succ_mul] at h1
          omega
        refine ⟨ys, sd6.at_, by rw [ra4.len, sizeLine_eq]; exact hl, B6, al6, ys ++ [v], (PA.trans PP).poke np, PB.trans PP.same, (SA.back PP S7).poke sd6, (SB.back PP S7).poke sd6, ⟨upd_same, sd6.nb, sd6.nal⟩, ?_⟩
        · rw [List.range_succ, List.map_append, ← List.append_assoc]
          exact (RepAll.mono PP.same _ ra4).append (.cons r6 .nil)
      · have ej : j = n1 := by omega
        subst ej
        refine .inl ⟨u2 _ (Nat.le_refl _), B4, al4, ys, PA, SA, sd4, ?_⟩
        rw [List.range_succ, List.flatMap_append]
        simpa using ra4
    · have ei : i = n := by omega
      subst ei
      obtain ⟨P2, S2, r2⟩ := S'.side P' sd np ra
      exact .inl ⟨w2 _ (Nat.le_refl _), k _ _ _ _ (P1.trans P2) S2 r2⟩
end
end DL
end
section
set_option Elab.async false
set_option linter.all false
set_option maxRecDepth 100000
namespace DL
open PySem PySem.Spec PyProof.Rows L2
/-! ### promises -/
/-- args, own objects; the answer, own objects behind it -/
abbrev Rel := List Vl → List Mc → D → List Mc → Prop
def spD (K : PySem.W.Frag) (n : Nat) (R : Rel) : Sp := fun vs H Q _ => ∃ B al args mem d mem', R args mem d mem' ∧ args.length = n ∧ mem'.length = mem.length ∧ Sit K B H al (vs.map some) (args.map some) mem ∧
  ∀ B' H' v, Stp B H al B' H' al → Sit K B' H' al (vs.map some) (args.map some) mem' → Rep K B' v d → Q v H'
/-- a def that reads data and gives data -/
def pureR (R : List D → D → Prop) : Rel := fun args mem d mem' => ∃ ds, args = ds.map Vl.dat ∧ mem = [] ∧ mem' = [] ∧ R ds d
/-- a def whose first argument is an own object that it may change -/
def ownR (R : Mc → List D → D → Mc → Prop) : Rel := fun args mem d mem' => ∃ m ds m', args = .own 0 :: ds.map Vl.dat ∧ mem = [m] ∧ mem' = [m'] ∧ R m ds d m'
abbrev spP (K : PySem.W.Frag) (n : Nat) (R : List D → D → Prop) : Sp := spD K n (pureR R)
abbrev spO (K : PySem.W.Frag) (n : Nat) (R : Mc → List D → D → Mc → Prop) : Sp := spD K n (ownR R)
section
variable {K : PySem.W.Frag} {ss ss1 ss2 : Sl} {mem m1 m2 m3 m4 : List Mc} {ta tb tc te : TE} {i j : Int} {d e : D} {r r' : Vl} {t u : TS} {out : Out}
theorem pack_slots {B H : Hp} {vs : List V} {ds : List D} (e : Same B H) (r : RepAll K B vs ds) : Sit K B H [] (vs.map some) ((ds.map Vl.dat).map some) [] := by
  refine ⟨e, by rw [List.length_map, List.length_map, List.length_map, r.len], fun i q h => ?_, rfl, fun n a m h _ => by simp at h, .nil, fun a h => by cases h⟩
  rw [List.getElem?_map, List.getElem?_map] at h
  cases hd : ds[i]? with
  | none => rw [hd] at h; cases h
  | some d =>
    rw [hd] at h
    cases h
    obtain ⟨v, h1, h2⟩ := r.get hd
    exact ⟨v, by rw [List.getElem?_map, h1]; rfl, h2⟩
/-- what a callee that changes none of the own objects leaves -/
theorem Sit.after {B H B' H' : Hp} {al : List Addr} {σ : L2.St} (S : Sit K B H al σ ss mem) (P : Stp B H [] B' H' []) (sub : Same B' H') : Stp B H al B' H' al ∧ Sit K B' H' al σ ss mem := by
  have PP : Stp B H al B' H' al := ⟨P.same, fun b o e _ => P.frame b o e (fun z => by cases z), fun b h => by
    rcases P.fresh b h with z | z | z | z
    · exact .inl z
    · exact .inr (.inl z)
    · exact absurd z List.not_mem_nil
    · exact .inr (.inr (.inr z)), P.stay, [], by rw [List.append_nil], fun _ h => by cases h⟩
  refine ⟨PP, sub, S.len, fun i r e => ?_, S.mlen, fun n a m h1 h2 => ?_, S.nd, fun a h => P.stay a (S.there a h)⟩
  · obtain ⟨v, h1, h2⟩ := S.slot i r e
    exact ⟨v, h1, h2.step PP⟩
  · have q := S.mem n a m h1 h2
    have ha := S.there a (List.mem_of_getElem? h1)
    have hb : (∀ ys, H a ≠ some (.tup ys)) → B a = none → B' a = none := fun ht h0 => by
      cases z : B' a with
      | none => rfl
      | some o =>
        rcases P.fresh a (by rw [z]; exact fun z => nomatch z) with y | y | y | ⟨ys, y⟩
        · exact absurd h0 y
        · exact absurd y ha
        · cases y
        · exact absurd y (ht ys)
    cases m with
    | gone => trivial
    | lst ds =>
      obtain ⟨b0, xs, h3, h4⟩ := q
      exact ⟨hb (fun ys z => by rw [h3] at z; cases z) b0, xs, P.frame _ _ h3 (fun z => by cases z), RepAll.mono P.same ds h4⟩
    | obj C fs =>
      obtain ⟨b0, dx, fv, h3, h4⟩ := q
      exact ⟨hb (fun ys z => by rw [h3] at z; cases z) b0, dx, fv, P.frame _ _ h3 (fun z => by cases z), RepFs.mono P.same fs h4⟩
    | dic ds =>
      obtain ⟨b0, kv, h3, h4⟩ := q
      exact ⟨hb (fun ys z => by rw [h3] at z; cases z) b0, kv, P.frame _ _ h3 (fun z => by cases z), RepKv.mono P.same ds h4⟩
/-- what a callee leaves that changes the n-th own object alone -/
theorem Sit.after1 {B H B' H' : Hp} {al : List Addr} {σ : L2.St} {n : Nat} {a : Addr} {m' : Mc} (S : Sit K B H al σ ss mem) (hn : al[n]? = some a) (P : Stp B H [a] B' H' [a]) (sub : Same B' H') (hm : McOk K B' H' a m') : Stp B H al B' H' al ∧ Sit K B' H' al σ ss (mem.set n m') := by
  have ha : a ∈ al := List.mem_of_getElem? hn
  have PP : Stp B H al B' H' al := ⟨P.same, fun b o e z => P.frame b o e (fun y => z (by rw [List.mem_singleton] at y; exact y ▸ ha)), fun b h => by
    rcases P.fresh b h with z | z | z | z
    · exact .inl z
    · exact .inr (.inl z)
    · rw [List.mem_singleton] at z
      exact .inr (.inr (.inl (z ▸ ha)))
    · exact .inr (.inr (.inr z)), P.stay, [], by rw [List.append_nil], fun _ h => by cases h⟩
  refine ⟨PP, sub, S.len, fun i r e => ?_, by rw [List.length_set]; exact S.mlen, fun n' a' m h1 h2 => ?_, S.nd, fun a h => P.stay a (S.there a h)⟩
  · obtain ⟨v, h1, h2⟩ := S.slot i r e
    exact ⟨v, h1, h2.step PP⟩
  · by_cases e : n' = n
    · subst e
      have ea : a' = a := Option.some.inj (h1.symm.trans hn)
      have hl : n' < mem.length := by
        have := (List.getElem?_eq_some_iff.mp h2).1
        rwa [List.length_set] at this
      rw [List.getElem?_set_self hl] at h2
      have em : m' = m := Option.some.inj h2
      rw [ea, ← em]
      exact hm
    · rw [List.getElem?_set_ne (Ne.symm e)] at h2
      have q := S.mem n' a' m h1 h2
      have na : a' ≠ a := fun z => e (nd_ix S.nd h1 (z ▸ hn))
      have na' : a' ∉ [a] := fun z => na (by rw [List.mem_singleton] at z; exact z)
      have hat := S.there a' (List.mem_of_getElem? h1)
      have hb : (∀ ys, H a' ≠ some (.tup ys)) → B a' = none → B' a' = none := fun ht h0 => by
        cases z : B' a' with
        | none => rfl
        | some o =>
          rcases P.fresh a' (by rw [z]; exact fun z => nomatch z) with y | y | y | ⟨ys, y⟩
          · exact absurd h0 y
          · exact absurd y hat
          · exact absurd y na'
          · exact absurd y (ht ys)
      cases m with
      | gone => trivial
      | lst ds =>
        obtain ⟨b0, xs, h3, h4⟩ := q
        exact ⟨hb (fun ys z => by rw [h3] at z; cases z) b0, xs, P.frame _ _ h3 na', RepAll.mono P.same ds h4⟩
      | obj C fs =>
        obtain ⟨b0, dx, fv, h3, h4⟩ := q
        exact ⟨hb (fun ys z => by rw [h3] at z; cases z) b0, dx, fv, P.frame _ _ h3 na', RepFs.mono P.same fs h4⟩
      | dic ds =>
        obtain ⟨b0, kv, h3, h4⟩ := q
        exact ⟨hb (fun ys z => by rw [h3] at z; cases z) b0, kv, P.frame _ _ h3 na', RepKv.mono P.same ds h4⟩
/-- f(..) of data -/
theorem dt_call {n : Nat} {R : List D → D → Prop} {E : XK} {t : TA} {ds : List D} (h : DA K t ss mem ds m1) (hR : R ds d) (hn : ds.length = n := by rfl) : DT K (tCall (spP K n R) [] E t) ss mem (.dat d) m1 := fun B H al σ Q S k =>
  h B H al σ _ S fun B1 H1 al1 vs P1 S1 r1 => by
    refine ⟨B1, [], ds.map Vl.dat, [], d, [], ⟨ds, rfl, rfl, rfl, hR⟩, by rw [List.length_map]; exact hn, rfl, ?_, fun B' H' v P S' rv => ?_⟩
    · rw [List.append_nil]
      exact pack_slots S1.sub r1
    · obtain ⟨P2, S2⟩ := S1.after P S'.sub
      exact k _ _ _ _ (P1.trans P2) S2 rv
/-- f(x, ..), x own -/
theorem dt_callO {n p : Nat} {R : Mc → List D → D → Mc → Prop} {E : XK} {t : TA} {ds : List D} {m m' : Mc} (h : DAO K t ss mem p ds m1) (hm : m1[p]? = some m) (hg : m ≠ .gone) (hR : R m ds d m') (hn : ds.length + 1 = n := by rfl) : DT K (tCall (spO K n R) [] E t) ss mem (.dat d) (m1.set p m') := fun B H al σ Q S k =>
  h B H al σ _ S fun B1 H1 al1 v vs P1 S1 r0 r1 => by
    obtain ⟨a, a1, rfl⟩ := r0
    have ma := S1.mem p a m a1 hm
    have ha := S1.there a (List.mem_of_getElem? a1)
    refine ⟨B1, [a], .own 0 :: ds.map Vl.dat, [m], d, [m'], ⟨m, ds, m', rfl, rfl, rfl, hR⟩, by rw [List.length_cons, List.length_map]; exact hn, rfl, ?_, fun B' H' v P S' rv => ?_⟩
    · rw [List.append_nil]
      refine ⟨S1.sub, by rw [List.length_map, List.length_map, List.length_cons, List.length_cons, List.length_map, r1.len], fun i q h => ?_, rfl, fun n' a' m'' h1 h2 => ?_, List.Pairwise.cons (fun _ z => by cases z) .nil, fun a' h => ?_⟩
      · cases i with
        | zero =>
          cases h
          exact ⟨.ref a, rfl, a, rfl, rfl⟩
        | succ i =>
          obtain ⟨v, h1, h2⟩ := (pack_slots S1.sub r1).slot i q h
          exact ⟨v, h1, by
            cases q with
            | dat d => exact h2
            | own n' =>
              obtain ⟨x, h3, _⟩ := h2
              cases h3
            | tl ds => exact h2
            | lk ds => exact h2⟩
      · cases n' with
        | zero =>
          cases h1
          cases h2
          exact ma
        | succ n' => cases h1
      · rw [List.mem_singleton] at h
        exact h ▸ ha
    · obtain ⟨P2, S2⟩ := S1.after1 a1 P S'.sub (S'.mem 0 a m' rfl rfl)
      exact k _ _ _ _ (P1.trans P2) S2 rv
/-- C(..): __init__ at a new instance -/
theorem dt_make {C : Addr} {n : Nat} {R : Mc → List D → D → Mc → Prop} {E : XK} {t : TA} {ds : List D} {fs : List (Str × D)} (h : DA K t ss mem ds m1) (hR : R (.obj C []) ds .non (.obj C fs)) (hn : ds.length + 1 = n := by rfl) : DT K (tMake C (spO K n R) [] E t) ss mem (.dat (.obj C fs)) m1 := fun B H al σ Q S k =>
  h B H al σ _ S fun B1 H1 al1 vs P1 S1 r1 x dx nx ndx nex => by
    have nb : B1 x = none := S1.sub.free nx
    have sH : Same H1 (upd (upd H1 dx (.own x)) x (.ins C dx [])) := fun b u e => by rw [upd_ne (ne_of_none e nx), upd_ne (ne_of_none e ndx)]; exact e
    refine ⟨B1, [x], .own 0 :: ds.map Vl.dat, [.obj C []], .non, [.obj C fs], ⟨_, ds, _, rfl, rfl, rfl, hR⟩, by rw [List.length_cons, List.length_map]; exact hn, rfl, ?_, fun B' H' v P S' rv => ⟨by cases rv; rfl, ?_⟩⟩
    · rw [List.append_nil]
      refine ⟨S1.sub.trans sH, by rw [List.length_map, List.length_map, List.length_cons, List.length_cons, List.length_map, r1.len], fun i q h => ?_, rfl, fun n' a' m'' h1 h2 => ?_, List.Pairwise.cons (fun _ z => by cases z) .nil, fun a' h => ?_⟩
      · cases i with
        | zero =>
          cases h
          exact ⟨.ref x, rfl, x, rfl, rfl⟩
        | succ i =>
          obtain ⟨v, h1, h2⟩ := (pack_slots (S1.sub.trans sH) r1).slot i q h
          exact ⟨v, h1, by
            cases q with
            | dat d => exact h2
            | own n' =>
              obtain ⟨x, h3, _⟩ := h2
              cases h3
            | tl ds => exact h2
            | lk ds => exact h2⟩
      · cases n' with
        | zero =>
          cases h1
          cases h2
          exact ⟨nb, dx, [], upd_same, .nil⟩
        | succ n' => cases h1
      · rw [List.mem_singleton] at h
        rw [h, upd_same]
        exact fun z => nomatch z
    · obtain ⟨b0, dx', fv, h3, h4⟩ := S'.mem 0 x _ rfl rfl
      have sB : Same B' (upd B' x (.ins C dx' fv)) := fun b u e => by rw [upd_ne (ne_of_none e b0)]; exact e
      have hnx : ∀ b, H1 b ≠ none → b ≠ x := fun b h e => h (e ▸ nx)
      have hnd : ∀ b, H1 b ≠ none → b ≠ dx := fun b h e => h (e ▸ ndx)
      have P0 : Stp B1 H1 [] (upd B' x (.ins C dx' fv)) H' [] := by
        refine ⟨P.same.trans sB, fun b u e _ => P.frame b u (sH b u e) (fun z => ?_), fun b h => ?_, fun b h => P.stay b ?_, [], rfl, fun _ h => by cases h⟩
        · rw [List.mem_singleton] at z
          exact ne_of_none e nx z
        · by_cases e : b = x
          · exact .inr (.inl (e ▸ nx))
          · rw [upd_ne e] at h
            rcases P.fresh b h with z | z | z | ⟨ys, z⟩
            · exact .inl z
            · refine .inr (.inl ?_)
              rw [upd_ne e] at z
              by_cases e2 : b = dx
              · exact e2 ▸ ndx
              · rw [upd_ne e2] at z
                exact z
            · rw [List.mem_singleton] at z
              exact absurd z e
            · rw [upd_ne e] at z
              by_cases e2 : b = dx
              · rw [e2, upd_same] at z
                cases z
              · rw [upd_ne e2] at z
                exact .inr (.inr (.inr ⟨ys, z⟩))
        · rw [upd_ne (hnx b h), upd_ne (hnd b h)]
          exact h
      have sub : Same (upd B' x (.ins C dx' fv)) H' := fun b u e => by
        by_cases q : b = x
        · subst q
          rw [upd_same] at e
          exact h3.trans e
        · rw [upd_ne q] at e
          exact S'.sub b u e
      obtain ⟨P2, S2⟩ := S1.after P0 sub
      exact k _ _ _ _ (P1.trans P2) S2 (.obj upd_same (RepFs.mono sB fs h4))
end

/-! ### a def keeps its promise -/
section
variable {P : Program} {w : World} {K : PySem.W.Frag} {mg : Str → Option Value} {base : Heap}
theorem start_sit {B H : Hp} {al : List Addr} {N : List Str} {vs : List V} {args : List Vl} {mem : List Mc} {n : Nat} (S : Sit K B H al (vs.map some) (args.map some) mem) (hn : args.length = n) : Sit K B H al (L2.start N vs) (args.map some ++ List.replicate (N.length - n) none) mem := by
  have hl : vs.length = args.length := by
    have := S.len
    rwa [List.length_map, List.length_map] at this
  refine ⟨S.sub, ?_, fun i r e => ?_, S.mlen, S.mem, S.nd, S.there⟩
  · unfold L2.start
    rw [List.length_append, List.length_append, List.length_map, List.length_map, List.length_replicate, List.length_replicate, hl, hn]
  · by_cases h : i < (args.map some).length
    · rw [List.getElem?_append_left h] at e
      obtain ⟨v, h1, h2⟩ := S.slot i r e
      refine ⟨v, ?_, h2⟩
      unfold L2.start
      rw [List.getElem?_append_left (List.getElem?_eq_some_iff.mp h1).1]
      exact h1
    · rw [List.getElem?_append_right (by omega), List.getElem?_replicate] at e
      split at e
      · cases e
      · cases e
/-- the answer of a def -/
def Ends1 (K : PySem.W.Frag) (t : TS) (ss : Sl) (mem : List Mc) (d : D) (mem' : List Mc) : Prop :=
  ∃ more, DS K t ss mem (.rt (.dat d) (mem' ++ more)) ∨ (d = .non ∧ ∃ s, DS K t ss mem (.nx s (mem' ++ more)))
theorem Ends1.rt {t : TS} {ss : Sl} {mem : List Mc} {d : D} {mem' : List Mc} (h : DS K t ss mem (.rt (.dat d) mem')) : Ends1 K t ss mem d mem' := ⟨[], .inl (by rw [List.append_nil]; exact h)⟩
theorem Ends1.nx {t : TS} {ss s : Sl} {mem : List Mc} {mem' : List Mc} (h : DS K t ss mem (.nx s mem')) : Ends1 K t ss mem .non mem' := ⟨[], .inr ⟨rfl, s, by rw [List.append_nil]; exact h⟩⟩
theorem fn_ok {x qual : Str} {st : Stmt} {f : Addr} {fd : FuncData} {N ps : List Str} {k n : Nat} {R : Rel} (F : Fun K x qual st f fd) (S : FnScope N ps (defScope st)) (hp : ps.length = n)
    (hbody : ∀ (cdv : Value) (A : Around) (outer : List Env) (s : Shared) (H : Hp) (E : XK), Room k (A.deeper (envOfC qual (defScope st) s.heap.objs.size f cdv)) →
      ∃ t, PSs (cxOf CX0 P w K mg base N qual (defScope st) f cdv A outer s H E).nox (defBody st) t ∧
        ∀ args mem d mem', R args mem d mem' → args.length = n → Ends1 K t (args.map some ++ List.replicate (N.length - n) none) mem d mem') :
    FnOk P w K mg base CX0 (k + 1) f fd ps (spD K n R) := by
  refine F.ok S (fun vs H Q E h => ?_) (fun cdv A outer s H vs Q E hr h => ?_)
  · obtain ⟨B, al, args, mem, d, mem', _, hn, _, S0, _⟩ := h
    have := S0.len
    rw [List.length_map, List.length_map] at this
    omega
  · obtain ⟨B, al, args, mem, d, mem', hR, hn, hm, S0, k0⟩ := h
    obtain ⟨t, ht, hd⟩ := hbody cdv A outer s H E hr
    refine ⟨t, ht, ?_⟩
    have fin : ∀ B' H' al' σ' ss' more v, Stp B H al B' H' al' → Sit K B' H' al' σ' ss' (mem' ++ more) → Rep K B' v d → Q v H' := fun B' H' al' σ' ss' more v P' S' rv => by
      have e1 : al.length = mem'.length := by rw [S0.mlen, hm]
      obtain ⟨ex, q, hx⟩ := P'.ext
      have e2 : al'.take mem'.length = al := by
        rw [q, List.take_append_of_le_length (by omega), List.take_of_length_le (by omega)]
      have P2 := P'.drop mem'.length (by omega)
      rw [e2] at P2
      have S1 : Sit K B' H' al' (vs.map some) ((args.map some).map fun _ => none) (mem' ++ more) := by
        refine ⟨S'.sub, ?_, fun i r e => ?_, S'.mlen, S'.mem, S'.nd, S'.there⟩
        · rw [List.length_map (as := args.map some)]
          exact S0.len
        · rw [List.getElem?_map] at e
          cases z : (args.map some)[i]? with
          | none => rw [z] at e; cases e
          | some y => rw [z] at e; cases e
      have S2 := S1.drop fun i n' e => by
        rw [List.getElem?_map] at e
        cases z : (args.map some)[i]? with
        | none => rw [z] at e; cases e
        | some y => rw [z] at e; cases e
      rw [e2] at S2
      exact k0 B' H' v P2 (S0.back P2 S2) rv
    obtain ⟨more, h | ⟨hd0, s', h⟩⟩ := hd args mem d mem' hR hn
    · exact h B H al (L2.start N vs) _ (start_sit S0 hn) fun B' H' al' P' σ' ss' v S' rv => fin B' H' al' σ' ss' more v P' S' rv
    · exact h B H al (L2.start N vs) _ (start_sit S0 hn) fun B' H' al' P' σ' S' => fin B' H' al' σ' s' more .non P' S' (hd0 ▸ .non)
theorem fnP {x qual : Str} {st : Stmt} {f : Addr} {fd : FuncData} {N ps : List Str} {k n : Nat} {R : List D → D → Prop} (F : Fun K x qual st f fd) (S : FnScope N ps (defScope st)) (hp : ps.length = n)
    (hbody : ∀ (cdv : Value) (A : Around) (outer : List Env) (s : Shared) (H : Hp) (E : XK), Room k (A.deeper (envOfC qual (defScope st) s.heap.objs.size f cdv)) →
      ∃ t, PSs (cxOf CX0 P w K mg base N qual (defScope st) f cdv A outer s H E).nox (defBody st) t ∧
        ∀ ds d, R ds d → ds.length = n → Ends1 K t ((ds.map fun d => some (.dat d)) ++ List.replicate (N.length - n) none) [] d []) :
    FnOk P w K mg base CX0 (k + 1) f fd ps (spP K n R) := fn_ok F S hp fun cdv A outer s H E hr => by
  obtain ⟨t, ht, h⟩ := hbody cdv A outer s H E hr
  refine ⟨t, ht, fun args mem d mem' hR hn => ?_⟩
  obtain ⟨ds, rfl, rfl, rfl, hR⟩ := hR
  rw [List.map_map]
  exact h ds d hR (by rw [List.length_map] at hn; exact hn)
theorem fnO {x qual : Str} {st : Stmt} {f : Addr} {fd : FuncData} {N ps : List Str} {k n : Nat} {R : Mc → List D → D → Mc → Prop} (F : Fun K x qual st f fd) (S : FnScope N ps (defScope st)) (hp : ps.length = n)
    (hbody : ∀ (cdv : Value) (A : Around) (outer : List Env) (s : Shared) (H : Hp) (E : XK), Room k (A.deeper (envOfC qual (defScope st) s.heap.objs.size f cdv)) →
      ∃ t, PSs (cxOf CX0 P w K mg base N qual (defScope st) f cdv A outer s H E).nox (defBody st) t ∧
        ∀ m ds d m', R m ds d m' → ds.length + 1 = n → Ends1 K t (some (.own 0) :: (ds.map fun d => some (.dat d)) ++ List.replicate (N.length - n) none) [m] d [m']) :
    FnOk P w K mg base CX0 (k + 1) f fd ps (spO K n R) := fn_ok F S hp fun cdv A outer s H E hr => by
  obtain ⟨t, ht, h⟩ := hbody cdv A outer s H E hr
  refine ⟨t, ht, fun args mem d mem' hR hn => ?_⟩
  obtain ⟨m, ds, m', rfl, rfl, rfl, hR⟩ := hR
  rw [List.map_cons, List.map_map]
  exact h m ds d m' hR (by rw [List.length_cons, List.length_map] at hn; exact hn)
end
end DL
end
section
set_option Elab.async false
set_option linter.all false
set_option maxRecDepth 100000
namespace DL
open PySem PySem.Spec PyProof.Rows L2
section
variable {K : PySem.W.Frag} {ss ss1 ss2 : Sl} {mem m1 m2 m3 m4 : List Mc} {ta tb tc te : TE} {i j : Int} {d e : D} {r r' : Vl} {t u : TS} {out : Out}
/-! ### built-ins -/
theorem one_data {B : Hp} {vs : List V} {d : D} (h : RepAll K B vs [d]) : ∃ v, vs = [v] ∧ Rep K B v d := by
  cases h with
  | cons h1 h2 =>
    cases h2
    exact ⟨_, rfl, h1⟩
theorem two_data {B : Hp} {vs : List V} {d e : D} (h : RepAll K B vs [d, e]) : ∃ v w, vs = [v, w] ∧ Rep K B v d ∧ Rep K B w e := by
  cases h with
  | cons h1 h2 =>
    cases h2 with
    | cons h2 h3 =>
      cases h3
      exact ⟨_, _, rfl, h1, h2⟩
def rLen (K : PySem.W.Frag) : List V → Hp → VK → Prop := fun xs H Q => ∃ p ys, xs = [.ref p] ∧ (SqL K H p ys ∨ SqT K H p ys) ∧ Q (.int ys.length) H
theorem dt_lenL {ds : List D} (h : DT K te ss mem (.dat (.lst ds)) m1) : DT K (tCB (fun xs H Q => ∃ p ys, xs = [.ref p] ∧ (SqL K H p ys ∨ SqT K H p ys) ∧ Q (.int ys.length) H) (tCons te tNil)) ss mem (.dat (.int ds.length)) m1 := fun B H al σ Q S k =>
  h B H al σ _ S fun B1 H1 al1 v P1 S1 r1 => by
    cases r1 with
    | lst s r => exact ⟨_, _, rfl, .inl (S1.seqL s), by rw [r.len]; exact k _ _ _ _ P1 S1 (.int _)⟩
theorem dt_lenT {ds : List D} (h : DT K te ss mem (.dat (.tup ds)) m1) : DT K (tCB (fun xs H Q => ∃ p ys, xs = [.ref p] ∧ (SqL K H p ys ∨ SqT K H p ys) ∧ Q (.int ys.length) H) (tCons te tNil)) ss mem (.dat (.int ds.length)) m1 := fun B H al σ Q S k =>
  h B H al σ _ S fun B1 H1 al1 v P1 S1 r1 => by
    cases r1 with
    | tup s r => exact ⟨_, _, rfl, .inr (S1.seqT (SqT.of s)), by rw [r.len]; exact k _ _ _ _ P1 S1 (.int _)⟩
theorem dt_lenO {n : Nat} {ds : List D} (h : DT K te ss mem (.own n) m1) (hm : m1[n]? = some (.lst ds)) : DT K (tCB (fun xs H Q => ∃ p ys, xs = [.ref p] ∧ (SqL K H p ys ∨ SqT K H p ys) ∧ Q (.int ys.length) H) (tCons te tNil)) ss mem (.dat (.int ds.length)) m1 := fun B H al σ Q S k =>
  h B H al σ _ S fun B1 H1 al1 v P1 S1 r1 => by
    obtain ⟨a, a1, rfl⟩ := r1
    obtain ⟨_, xs, a2, a3⟩ := S1.mem n a _ a1 hm
    exact ⟨_, _, rfl, .inl (SqL.of a2), by rw [a3.len]; exact k _ _ _ _ P1 S1 (.int _)⟩
theorem dt_int1 (h : DT K te ss mem (.dat (.int i)) m1) : DT K (tCB (fun xs H Q => (∃ i, xs = [.int i] ∧ Q (.int i) H) ∨ ∃ k, xs = [.bl k] ∧ Q (.int (if k then 1 else 0)) H) (tCons te tNil)) ss mem (.dat (.int i)) m1 := fun B H al σ Q S k =>
  h B H al σ _ S fun B1 H1 al1 v P1 S1 r1 => by
    cases r1
    exact .inl ⟨i, rfl, k _ _ _ _ P1 S1 (.int _)⟩
theorem dt_max2 {t : TA} (h : DA K t ss mem [.int i, .int j] m1) : DT K (tCB (fun xs H Q => ∃ i j, xs = [.int i, .int j] ∧ Q (.int (if j > i then j else i)) H) t) ss mem (.dat (.int (if j > i then j else i))) m1 := fun B H al σ Q S k =>
  h B H al σ _ S fun B1 H1 al1 vs P1 S1 r1 => by
    obtain ⟨v, w, rfl, h1, h2⟩ := two_data r1
    cases h1
    cases h2
    exact ⟨i, j, rfl, k _ _ _ _ P1 S1 (.int _)⟩
theorem dt_min2 {t : TA} (h : DA K t ss mem [.int i, .int j] m1) : DT K (tCB (fun xs H Q => ∃ i j, xs = [.int i, .int j] ∧ Q (.int (if j < i then j else i)) H) t) ss mem (.dat (.int (if j < i then j else i))) m1 := fun B H al σ Q S k =>
  h B H al σ _ S fun B1 H1 al1 vs P1 S1 r1 => by
    obtain ⟨v, w, rfl, h1, h2⟩ := two_data r1
    cases h1
    cases h2
    exact ⟨i, j, rfl, k _ _ _ _ P1 S1 (.int _)⟩
theorem dt_all {bs : List Bool} (h : DT K te ss mem (.dat (.lst (bs.map .bl))) m1) : DT K (tCB (rAll K) (tCons te tNil)) ss mem (.dat (.bl (bs.all id))) m1 := fun B H al σ Q S k =>
  h B H al σ _ S fun B1 H1 al1 v P1 S1 r1 => by
    cases r1 with
    | lst s r =>
      cases r.bls
      exact ⟨_, bs, rfl, S1.seqL s, k _ _ _ _ P1 S1 (.bl _)⟩
theorem dt_any {bs : List Bool} (h : DT K te ss mem (.dat (.lst (bs.map .bl))) m1) : DT K (tCB (rAny K) (tCons te tNil)) ss mem (.dat (.bl (bs.any id))) m1 := fun B H al σ Q S k =>
  h B H al σ _ S fun B1 H1 al1 v P1 S1 r1 => by
    cases r1 with
    | lst s r =>
      cases r.bls
      exact ⟨_, bs, rfl, S1.seqL s, k _ _ _ _ P1 S1 (.bl _)⟩
theorem dt_tupleL {ds : List D} (h : DT K te ss mem (.dat (.lst ds)) m1) : DT K (tThen te (kTup K)) ss mem (.dat (.tup ds)) m1 := fun B H al σ Q S k =>
  h B H al σ _ S fun B1 H1 al1 v P1 S1 r1 => by
    cases r1 with
    | @lst a xs _ s r =>
      refine .inl ⟨a, xs, rfl, S1.seqL s, fun q nq => ?_⟩
      obtain ⟨P, S'⟩ := S1.lay (o := .tup xs) nq
      exact k _ _ _ _ (P1.trans P) S' (.tup upd_same (RepAll.mono P.same ds r))
theorem dt_tupleO {n : Nat} {ds : List D} (h : DT K te ss mem (.own n) m1) (hm : m1[n]? = some (.lst ds)) : DT K (tThen te (kTup K)) ss mem (.dat (.tup ds)) m1 := fun B H al σ Q S k =>
  h B H al σ _ S fun B1 H1 al1 v P1 S1 r1 => by
    obtain ⟨a, a1, rfl⟩ := r1
    obtain ⟨_, xs, a2, a3⟩ := S1.mem n a _ a1 hm
    refine .inl ⟨a, xs, rfl, SqL.of a2, fun q nq => ?_⟩
    obtain ⟨P, S'⟩ := S1.lay (o := .tup xs) nq
    exact k _ _ _ _ (P1.trans P) S' (.tup upd_same (RepAll.mono P.same ds a3))
/-! isinstance -/
def D.tyn : D → Option String
  | .non => some "NoneType"
  | .bl _ => some "bool"
  | .int _ => some "int"
  | .str _ => some "str"
  | .lst _ => some "list"
  | .tup _ => some "tuple"
  | .obj _ _ => none
  | .ctp _ => none
  | .dic _ => none
  | .rls _ => none
theorem rep_ty {B H : Hp} {v : V} {T : String} (e : Same B H) : ∀ {d : D}, Rep K B v d → d.tyn = some T → TyX K H v (.type T)
  | .non, h, z => by cases h; cases z; exact .base .non
  | .bl b, h, z => by cases h; cases z; exact .base (.bl b)
  | .int b, h, z => by cases h; cases z; exact .base (.int b)
  | .str b, h, z => by cases h; cases z; exact .base (.str b)
  | .lst _, h, z => by
    cases h with
    | lst s r =>
      cases z
      rcases e.seq s with (q | ⟨o, q⟩) | ⟨o, its, n, q, c, _⟩
      · exact .base (.lst q)
      · exact .base (.frz q)
      · exact .kList q c
  | .tup _, h, z => by
    cases h with
    | tup s r =>
      cases z
      exact .base (.tup (e _ _ s))
theorem dt_isi {T c : String} {b : Bool} (h : DT K te ss mem (.dat d) m1) (hd : d.tyn = some T) (hb : kitB T c = some b) : DT K (tCB (rIsi K) (tCons te (tCons (tC (.ty c)) tNil))) ss mem (.dat (.bl b)) m1 := fun B H al σ Q S k =>
  h B H al σ _ S fun B1 H1 al1 v P1 S1 r1 => ⟨v, .ty c, .type T, .type c, b, rfl, .ty c, rep_ty S1.sub r1 hd, kit_ty hb, k _ _ _ _ P1 S1 (.bl b)⟩
abbrev ClsT := C8.InsC
theorem dt_isiC {C : Addr} {gs : List (Str × D)} (h : DT K te ss mem (.dat (.obj C gs)) m1) (T : ClsT K C) : DT K (tCB (rIsi K) (tCons te (tCons (tC (.ref C)) tNil))) ss mem (.dat (.bl true)) m1 := fun B H al σ Q S k =>
  h B H al σ _ S fun B1 H1 al1 v P1 S1 r1 => by
    cases r1 with
    | obj s r => exact ⟨_, .ref C, .ref C, .ref C, true, rfl, .own C, .base (.ins (S1.sub _ _ s) T.cl T.ha T.hn T.htk T.hm), T.me, k _ _ _ _ P1 S1 (.bl true)⟩
/-! == of data -/
mutual
def D.py : D → PyData
  | .non => .none
  | .bl b => .bool b
  | .int i => .int i
  | .str x => .str x
  | .lst ds => .list (D.pyAll ds)
  | .tup ds => .tuple (D.pyAll ds)
  | .obj _ _ => .none
  | .ctp _ => .none
  | .dic _ => .none
  | .rls _ => .none
def D.pyAll : List D → List PyData
  | [] => []
  | d :: ds => d.py :: D.pyAll ds
end
mutual
/-- data without objects and texts, at most n deep -/
def D.flat : Nat → D → Bool
  | _, .non => true
  | _, .bl _ => true
  | _, .int _ => true
  | 0, .lst _ => false
  | n + 1, .lst ds => D.flatAll n ds
  | 0, .tup _ => false
  | n + 1, .tup ds => D.flatAll n ds
  | _, _ => false
def D.flatAll : Nat → List D → Bool
  | _, [] => true
  | n, d :: ds => D.flat n d && D.flatAll n ds
end
mutual
theorem flat_lay : ∀ (n : Nat) (d : D), D.flat n d = true → d.py.canLay0 = true ∧ d.py.depth ≤ n
  | n, .non, _ => by cases n <;> simp [D.py, PyData.canLay0, PyData.depth]
  | n, .bl b, _ => by cases n <;> simp [D.py, PyData.canLay0, PyData.depth]
  | n, .int b, _ => by cases n <;> simp [D.py, PyData.canLay0, PyData.depth]
  | 0, .str _, h => by simp [D.flat] at h
  | n + 1, .str _, h => by simp [D.flat] at h
  | 0, .obj _ _, h => by simp [D.flat] at h
  | n + 1, .obj _ _, h => by simp [D.flat] at h
  | 0, .ctp _, h => by simp [D.flat] at h
  | n + 1, .ctp _, h => by simp [D.flat] at h
  | 0, .dic _, h => by simp [D.flat] at h
  | n + 1, .dic _, h => by simp [D.flat] at h
  | 0, .rls _, h => by simp [D.flat] at h
  | n + 1, .rls _, h => by simp [D.flat] at h
  | 0, .lst _, h => by simp [D.flat] at h
  | 0, .tup _, h => by simp [D.flat] at h
  | n + 1, .lst ds, h => by
    have q := flat_layAll n ds (by simpa [D.flat] using h)
    simp only [D.py, PyData.canLay0, PyData.depth]
    exact ⟨q.1, by have := q.2; omega⟩
  | n + 1, .tup ds, h => by
    have q := flat_layAll n ds (by simpa [D.flat] using h)
    simp only [D.py, PyData.canLay0, PyData.depth]
    exact ⟨q.1, by have := q.2; omega⟩
theorem flat_layAll : ∀ (n : Nat) (ds : List D), D.flatAll n ds = true → PyData.canLayAll0 (D.pyAll ds) = true ∧ PyData.depthAll (D.pyAll ds) ≤ n
  | n, [], _ => by simp [D.pyAll, PyData.canLayAll0, PyData.depthAll]
  | n, d :: ds, h => by
    rw [D.flatAll, Bool.and_eq_true] at h
    have q1 := flat_lay n d h.1
    have q2 := flat_layAll n ds h.2
    simp only [D.pyAll, PyData.canLayAll0, PyData.depthAll, Bool.and_eq_true]
    exact ⟨⟨q1.1, q2.1⟩, by have := q1.2; have := q2.2; omega⟩
end
theorem flat_shaped {n : Nat} {d : D} (h : D.flat n d = true) (hn : n ≤ 64) : SeqAt.shaped d.py = true := by
  obtain ⟨a, b⟩ := flat_lay n d h
  show (d.py.canLay0 && decide (d.py.depth ≤ 64)) = true
  rw [Bool.and_eq_true]
  exact ⟨a, decide_eq_true (by omega)⟩
mutual
theorem Rep.dp {B H : Hp} (e : Same B H) : ∀ (n : Nat) (d : D) {v : V}, Rep K B v d → D.flat n d = true → Dp K H v d.py
  | n, .non, _, h, _ => by cases h; rw [D.py]; exact .non
  | n, .bl b, _, h, _ => by cases h; rw [D.py]; exact .bl b
  | n, .int b, _, h, _ => by cases h; rw [D.py]; exact .int b
  | n, .str b, _, h, _ => by cases h; rw [D.py]; exact .str b
  | 0, .obj _ _, _, h, z => by simp [D.flat] at z
  | n + 1, .obj _ _, _, h, z => by simp [D.flat] at z
  | 0, .ctp _, _, h, z => by simp [D.flat] at z
  | n + 1, .ctp _, _, h, z => by simp [D.flat] at z
  | 0, .dic _, _, h, z => by simp [D.flat] at z
  | n + 1, .dic _, _, h, z => by simp [D.flat] at z
  | 0, .rls _, _, h, z => by simp [D.flat] at z
  | n + 1, .rls _, _, h, z => by simp [D.flat] at z
  | 0, .lst _, _, h, z => by simp [D.flat] at z
  | 0, .tup _, _, h, z => by simp [D.flat] at z
  | n + 1, .lst ds, _, h, z => by
    cases h with
    | lst s r =>
      rw [D.py]
      exact .lst (e.seq s) (RepAll.dp e n ds r (by simpa [D.flat] using z))
  | n + 1, .tup ds, _, h, z => by
    cases h with
    | tup s r =>
      rw [D.py]
      exact .tup (sameT e (SqT.of s)) (RepAll.dp e n ds r (by simpa [D.flat] using z))
theorem RepAll.dp {B H : Hp} (e : Same B H) : ∀ (n : Nat) (ds : List D) {vs : List V}, RepAll K B vs ds → D.flatAll n ds = true → DpAll K H vs (D.pyAll ds)
  | n, [], _, h, _ => by cases h; rw [D.pyAll]; exact .nil
  | n, d :: ds, _, h, z => by
    rw [D.flatAll, Bool.and_eq_true] at z
    cases h with
    | cons h1 h2 =>
      rw [D.pyAll]
      exact .cons (Rep.dp e n d h1 z.1) (RepAll.dp e n ds h2 z.2)
end
theorem eqv_self {n : Nat} {d : D} (h : D.flat n d = true) : PyData.eqv d.py d.py = true := SeqAt.eqv_refl _ (flat_lay n d h).1
theorem dt_eqD {n : Nat} (ha : DT K ta ss mem (.dat d) m1) (hb : DT K tb ss m1 (.dat e) m2) (hd : D.flat n d = true) (he : D.flat n e = true) (hn : n ≤ 64 := by decide) : DT K (tOp (rEqD K) ta tb) ss mem (.dat (.bl (PyData.eqv d.py e.py))) m2 :=
  dt_op ha hb fun B H al σ v w Q S hv hw k => ⟨_, _, Rep.dp S.sub n d hv hd, Rep.dp S.sub n e hw he, flat_shaped hd hn, flat_shaped he hn, k _ _ _ _ (Stp.refl _ _ _) S (.bl _)⟩
theorem dt_neD {n : Nat} (ha : DT K ta ss mem (.dat d) m1) (hb : DT K tb ss m1 (.dat e) m2) (hd : D.flat n d = true) (he : D.flat n e = true) (hn : n ≤ 64 := by decide) : DT K (tOp (rNeD K) ta tb) ss mem (.dat (.bl (!PyData.eqv d.py e.py))) m2 :=
  dt_op ha hb fun B H al σ v w Q S hv hw k => ⟨_, _, Rep.dp S.sub n d hv hd, Rep.dp S.sub n e hw he, flat_shaped hd hn, flat_shaped he hn, k _ _ _ _ (Stp.refl _ _ _) S (.bl _)⟩
theorem dt_neD_same {n : Nat} (ha : DT K ta ss mem (.dat d) m1) (hb : DT K tb ss m1 (.dat d) m2) (hd : D.flat n d = true) (hn : n ≤ 64 := by decide) : DT K (tOp (rNeD K) ta tb) ss mem (.dat (.bl false)) m2 := by
  have h := dt_neD ha hb hd hd hn
  rw [eqv_self hd] at h
  exact h
theorem dt_inD {n : Nat} {ds : List D} (ha : DT K ta ss mem (.dat d) m1) (hb : DT K tb ss m1 (.dat (.lst ds)) m2) (hd : D.flat n d = true) (he : D.flat n (.lst ds) = true) (hn : n ≤ 64 := by decide) :
    DT K (tOp (rInD K) ta tb) ss mem (.dat (.bl ((D.pyAll ds).any fun z => PyData.eqv z d.py))) m2 :=
  dt_op ha hb fun B H al σ v w Q S hv hw k => by
    have h2 := Rep.dp S.sub n (.lst ds) hw he
    have h3 := flat_shaped he hn
    rw [D.py] at h2 h3
    exact ⟨_, _, Rep.dp S.sub n d hv hd, h2, flat_shaped hd hn, h3, k _ _ _ _ (Stp.refl _ _ _) S (.bl _)⟩
theorem pyAll_mem {d : D} : ∀ {ds : List D}, d ∈ ds → d.py ∈ D.pyAll ds
  | x :: ds, h => by
    rw [D.pyAll]
    rcases List.mem_cons.mp h with z | z
    · rw [z]
      exact List.mem_cons_self
    · exact List.mem_cons_of_mem _ (pyAll_mem z)
theorem inD_mem {n : Nat} {ds : List D} (hm : d ∈ ds) (hd : D.flat n d = true) : ((D.pyAll ds).any fun z => PyData.eqv z d.py) = true :=
  List.any_eq_true.mpr ⟨_, pyAll_mem hm, eqv_self hd⟩
/-- x in data: a member -/
theorem dt_inD_mem {n : Nat} {ds : List D} (ha : DT K ta ss mem (.dat d) m1) (hb : DT K tb ss m1 (.dat (.lst ds)) m2) (hd : D.flat n d = true) (he : D.flat n (.lst ds) = true) (hm : d ∈ ds) (hn : n ≤ 64 := by decide) :
    DT K (tOp (rInD K) ta tb) ss mem (.dat (.bl true)) m2 := by
  have h := dt_inD ha hb hd he hn
  rw [inD_mem hm hd] at h
  exact h
/-! sorted(set(rows)), rows tuples of ints -/
def rowD (ns : List Int) : D := .tup (ns.map .int)
theorem RepAll.rows {B : Hp} : ∀ {nss : List (List Int)} {vs : List V}, RepAll K B vs (nss.map rowD) → ∃ ks : List (Addr × List Int), vs = ks.map (fun p => V.ref p.1) ∧ ks.map (·.2) = nss ∧ ∀ p ∈ ks, B p.1 = some (.tup (p.2.map V.int))
  | [], _, h => by cases h; exact ⟨[], rfl, rfl, fun _ h => by cases h⟩
  | ns :: nss, _, h => by
    cases h with
    | cons h1 h2 =>
      cases h1 with
      | @tup a xs _ s r =>
        obtain ⟨ks, e1, e2, e3⟩ := RepAll.rows h2
        cases r.ints
        refine ⟨(a, ns) :: ks, by rw [e1]; rfl, by rw [← e2]; rfl, fun p hp => ?_⟩
        rcases List.mem_cons.mp hp with z | z
        · rw [z]
          exact s
        · exact e3 p z
theorem RepAll.ofRows {B : Hp} : ∀ {ks : List (Addr × List Int)}, (∀ p ∈ ks, B p.1 = some (.tup (p.2.map V.int))) → RepAll K B (ks.map fun p => V.ref p.1) ((ks.map (·.2)).map rowD)
  | [], _ => .nil
  | p :: ks, h => .cons (.tup (h p List.mem_cons_self) (RepAll.ofInts p.2)) (RepAll.ofRows fun q hq => h q (List.mem_cons_of_mem _ hq))
/-- what sorted(set(..)) of such rows is -/
structure SortSet (B : Int) (nss out : List (List Int)) : Prop where
  mem : ∀ x, x ∈ out ↔ x ∈ nss
  nd : out.Nodup
  ord : out.Pairwise fun a b => TS.code B a ≤ TS.code B b
theorem dt_sortSet {P : Program} {w : World} {nss out : List (List Int)} {n : Nat} {Bd : Int} (h : DT K te ss mem (.dat (.lst (nss.map rowD))) m1) (hl : nss.length < 64) (hn : 1 ≤ n) (hb : ∀ x ∈ nss, x.length = n ∧ TS.Bd Bd x)
    (uniq : ∀ out', SortSet Bd nss out' → out' = out) : DT K (tCB (rSortedT K P w) (tCons (tCB (rSetOfT K P w) (tCons te tNil)) tNil)) ss mem (.dat (.lst (out.map rowD))) m1 := fun B H al σ Q S k =>
  h B H al σ _ S fun B1 H1 al1 v P1 S1 r1 => by
    cases r1 with
    | @lst l xs _ s r =>
      obtain ⟨ks, e1, e2, e3⟩ := RepAll.rows r
      subst e1
      have kl : ks.length = nss.length := by rw [← e2, List.length_map]
      refine ⟨l, ks, rfl, S1.seqL s, fun p hp => S1.seqT (SqT.of (e3 p hp)), by omega, fun a L na hL1 hL2 => ?_⟩
      obtain ⟨P2, S2⟩ := S1.lay (o := SetTO P w a L) na
      have e3' : ∀ p ∈ L, (upd B1 a (SetTO P w a L)) p.1 = some (.tup (p.2.map V.int)) := fun p hp => P2.same _ _ (e3 p (hL1 p hp))
      have hin : ∀ p ∈ ks, p.2 ∈ nss := fun p hp => by rw [← e2]; exact List.mem_map_of_mem hp
      refine ⟨a, L, n, Bd, rfl, upd_same, fun p hp => S2.seqT (SqT.of (e3' p hp)), hn, fun p hp => hb _ (hin p (hL1 p hp)), fun L' p hp hnd hfew hord np => ?_⟩
      obtain ⟨P3, S3⟩ := S2.lay (o := .lst (L'.map fun q => V.ref q.1)) np
      have hout : L'.map (·.2) = out := uniq _ ⟨fun x => ⟨fun hx => ?_, fun hx => ?_⟩, hnd, by rw [List.pairwise_map]; exact hord⟩
      · refine k _ _ _ _ ((P1.trans P2).trans P3) S3 (.lst (SqL.of upd_same) ?_)
        rw [← hout]
        exact RepAll.mono P3.same _ (RepAll.ofRows fun q hq => e3' q (hp.mem_iff.mp hq))
      · obtain ⟨q, hq, rfl⟩ := List.mem_map.mp hx
        exact hin q (hL1 q (hp.mem_iff.mp hq))
      · rw [← e2] at hx
        obtain ⟨q, hq, rfl⟩ := List.mem_map.mp hx
        obtain ⟨q', hq', e⟩ := List.mem_map.mp (hL2 q hq)
        exact List.mem_map.mpr ⟨q', hp.mem_iff.mpr hq', e⟩
end
end DL
end
section
set_option Elab.async false
set_option linter.all false
set_option maxRecDepth 100000
/-! enumerate(tuple); zip of two tuples, walked, said of data -/
namespace DL
open PySem PySem.Spec PyProof.Rows L2
/-! enumerate of a tuple, told once, without a start -/
set_option maxHeartbeats 1000000 in
theorem enumNew1 {v : Value} {o : Obj} {At : Heap → Prop} (beg : Begins v o At) : Meets (Builtin.«enumerate.__new__» ⟨[.type "enumerate", v], []⟩) fun _ R s =>
    At s.heap ∧ R (.ok (.ret (.ref (s.heap.objs.size + 1)))) { s with heap := (s.heap.push o).push ⟨.type "enumerate", none, .fields #[.none, .bool false, .ref s.heap.objs.size, rawInt 0, .none, .none], #[]⟩ } :=
  .of_wp fun P w A R ⟨hp, gs, dr, tk, os⟩ ⟨now, fin⟩ => by
    have self := sub_enumerate
    have begins := fun {A' : Around} {E Q : Value → Shared → Prop} => beg.iter P w A' E ⟨hp, gs, dr, tk, os⟩ Q now
    have two : (hp.push o).objs.size = hp.objs.size + 1 := Heap.size_push ..
    have done : ∀ z : Value, z = .ref (hp.push o).objs.size → R (.ok (.ret z)) _ := fun z e => by rw [e, two]; exact fin
    wp_walk using begins
    refine wpAny_stack_any fun _ => wpAny_pure ?_
    split
    case h_1 k _ _ _ _ _ => cases (k == Value.type "enumerate") <;> (wp_walk using begins) <;> exact ⟨_, rfl, done _ rfl⟩
    case h_2 => wp_walk using begins; exact ⟨_, rfl, done _ rfl⟩
/-- the pairs of place and item of the tuple at a (n items), each in a new tuple -/
def PlT (K : PySem.W.Frag) (a : Addr) (n : Nat) : It where
  go i H := i < n ∧ ∃ xs, SqT K H a xs ∧ xs.length = n
  yld i H v H' := ∃ T x, v = .ref T ∧ H T = none ∧ H' = upd H T (.tup [.int (i : Nat), x]) ∧ ∀ xs, SqT K H a xs → xs[i]? = some x
  stop i H := n ≤ i ∧ ∃ xs, SqT K H a xs ∧ xs.length = n
theorem turnPlT {P : Program} {w : World} {K : PySem.W.Frag} {elts : List Expr} {kk : Nat} {tpos : Pos} {a e it : Addr} {n : Nat} (ai : a ≠ it) (ei : e ≠ it) (ea : e ≠ a) :
    Turn P w K (.Tuple elts kk tpos) (PlT K a n) [e, it] e fun i h => i ≤ n ∧ (∃ old, IsEnum h e it (i : Nat) old) ∧ h.IsTupleIter it a i where
  mem := List.mem_cons_self
  obj i h st b hb := by
    obtain ⟨-, ⟨_, p⟩, oi, q, -, z⟩ := st
    rcases List.mem_cons.mp hb with y | y
    · subst y
      exact ⟨_, p, fun _ q => nomatch q⟩
    · cases List.mem_singleton.mp y
      exact ⟨oi, q, fun _ c => by rw [z] at c; cases c⟩
  keep i h h' st k := ⟨st.1, ⟨_, k e List.mem_cons_self _ st.2.1.choose_spec⟩, st.2.2.at (k it (by simp))⟩
  self A i s Q E st k := wpAny_pyIter_enum st.2.1.choose_spec k
  item := by
    rintro X rfl rfl rfl calm i pins s σ H E I free ⟨-, p, q⟩ ⟨lt, xs, sq, hn⟩
    obtain ⟨us, rel, tup, -⟩ := I.tuple sq
    have W := WalksT.enumerateD (Draws.tuple (prog := X.prog) (w := X.w) (A := X.A.in1) (show X.A.in1.handled = none from I.ok.hd calm) it a ai us.toArray) e ei (by simp [ei, ea]) (by simp)
    have hi : i < xs.length := hn ▸ lt
    obtain ⟨u', e1, rx⟩ := rel.get (List.getElem?_eq_getElem hi)
    refine W.item i s _ _ (by rw [List.size_toArray, ← rel.length]; exact hi) ⟨p, q, tup⟩ fun T vals h1 tk ⟨t, u, hu, hv⟩ new hT mid k1 => ⟨_, rfl, W.go elts kk tpos i T _ _ _ mid fun h2 ⟨p2, q2, _⟩ k2 => ?_⟩
    have e3 : us[i]? = some u := by simpa using hu
    cases e1.symm.trans e3
    have nT : T ∉ [e, it] := W.apart i T _ mid
    obtain ⟨oT, gT, cT, nn, dT⟩ := hT
    have pair : ObjOk X.prog X.w (upd H T (.tup [.int (i : Nat), xs[i]])) h2 T (.tup [.int (i : Nat), xs[i]]) :=
      ⟨by rw [sizeLine_eq]; show 2 ≤ 16777216; omega, [.int i t, u'], .cons ⟨t, rfl⟩ (.cons rx .nil), oT, k2 T oT nT gT, cT, nn, by rw [dT, hv]⟩
    have only : ∀ ys, SqT X.K H a ys → ys[i]? = some xs[i] := fun ys hy => by
      cases I.tuple_inj sq hy
      exact List.getElem?_eq_getElem hi
    refine ⟨.ref T, _, I.turnedNew (t' := tk) (fun b ob nb g => k2 b ob nb (k1 b ob nb g)) free new pair, rfl, ⟨T, xs[i], rfl, I.hok.fresh new, rfl, only⟩, ⟨lt, p2, q2⟩, fun b hb => ?_⟩
    have bT : b ≠ T := fun z => nT (by rw [← z]; exact hb)
    exact (upd_ne bT).trans (free b hb).1
  done := by
    rintro X rfl rfl rfl calm i pins s σ H E I free ⟨le, p, q⟩ ⟨ge, xs, sq, hn⟩
    obtain ⟨us, rel, tup, -⟩ := I.tuple sq
    have W := WalksT.enumerateD (Draws.tuple (prog := X.prog) (w := X.w) (A := X.A.in1) (show X.A.in1.handled = none from I.ok.hd calm) it a ai us.toArray) e ei (by simp [ei, ea]) (by simp)
    have len : i = us.toArray.size := by rw [List.size_toArray, ← rel.length]; omega
    subst len
    exact W.done s _ _ ⟨p, q, tup⟩ fun h1 tk k1 => ⟨rfl, I.turnedL k1 free⟩
def iEnumT (K : PySem.W.Frag) (ta : TA) : TI := fun σ H R => ta σ H fun vs H1 => ∃ a xs, vs = [.ref a] ∧ SqT K H1 a xs ∧ R (PlT K a xs.length) H1
theorem pi_enumT {X : Cx} {e : Expr} {ta : TA} {p pos tpos : Pos} {elts : List Expr} {kk : Nat} (hg : Gl X "enumerate") (hm : X.mg "enumerate" = none) (ha : PA X [e] ta) (hs : starEach [e] X.env = [(false, eval e X.env)] := by rfl) :
    PI X (.Tuple elts kk tpos) (.Call (.Name "enumerate" p) [e] [] pos) (iEnumT X.K ta) := ⟨fun pins s σ H R I h => by
  have args := ha.run pos pins s σ H _ I h
  refine Call_ (ld_blt I hg hm boot_enumerate (PyProof.Rows.callWith_type1 (thn args fun us s1 came => ?_) hs rfl))
  obtain ⟨vs, H1, I1, rel, a, xs, rfl, sq, k⟩ := came
  obtain ⟨_, rfl, ra⟩ := rel.one
  cases ra
  obtain ⟨its, -, tup, -⟩ := I1.tuple sq
  have before : a < s1.heap.objs.size := let ⟨_, g, _⟩ := tup; Heap.lt_size g
  refine callType_new F.called_enumerate (by decide) (F.typeCall_enumerate_1 _) (F.newCall_enumerate_1 _)
    (fun obj => F.args_object_init_2 obj _) F.entry_enumerate_new (enumNew1 (begins_tuple a its.toArray)) ⟨tup, ?_⟩
  generalize hob : ({ cls := .type "tuple_iterator", data := .fields #[.ref a, .int 0 0] } : Obj) = ob
  have two : (s1.heap.push ob).objs.size = s1.heap.objs.size + 1 := Heap.size_push ..
  have en : ∀ q : Obj, q.isFreed = false → ((s1.heap.push ob).push q).get? (s1.heap.objs.size + 1) = some q := fun q f => two ▸ Heap.get?_push_size _ f
  have old : ∀ q : Obj, ∀ b o, s1.heap.get? b = some o → ((s1.heap.push ob).push q).get? b = some o := fun q b o g => Heap.get?_push_of_some _ (Heap.get?_push_of_some _ g)
  have me := en ⟨.type "enumerate", none, .fields #[.none, .bool false, .ref s1.heap.objs.size, rawInt 0, .none, .none], #[]⟩ rfl
  have at0 : ((s1.heap.push ob).push ⟨.type "enumerate", none, .fields #[.none, .bool false, .ref s1.heap.objs.size, rawInt 0, .none, .none], #[]⟩).get? s1.heap.objs.size = some ob := Heap.get?_push_of_some _ (Heap.get?_push_size _ (hob ▸ rfl))
  refine ⟨⟨_, me, rfl⟩, wpAny_pyIter_enum (it := s1.heap.objs.size) me ?_⟩
  refine ⟨_, [s1.heap.objs.size + 1, s1.heap.objs.size], _, _, H1, rfl, I1.kept (t' := s1.toks) (old _), turnPlT (Nat.ne_of_lt before) (Nat.succ_ne_self _) (Nat.ne_of_gt (Nat.lt_succ_of_lt before)),
    ⟨Nat.zero_le _, ⟨_, me⟩, ⟨ob, at0, hob ▸ rfl, hob ▸ rfl⟩⟩, fun b hb => ?_, k⟩
  have ge : s1.heap.objs.size ≤ b := by
    rcases List.mem_cons.mp hb with y | y
    · exact y ▸ Nat.le_succ _
    · exact Nat.le_of_eq (List.mem_singleton.mp y).symm
  exact I1.fpOk ge (I1.hok.fresh ge)⟩
section
variable {K : PySem.W.Frag} {ss ss1 ss2 : Sl} {mem m1 m2 m3 m4 : List Mc} {ta tb tc te : TE} {i j : Int} {d e : D} {r r' : Vl} {t u : TS} {out : Out}
theorem Sit.layPair {B H : Hp} {al : List Addr} {σ : L2.St} (S : Sit K B H al σ ss mem) {T : Addr} {x y : V} (hT : H T = none) (r1 : Rep K B x d) (r2 : Rep K B y e) :
    ∃ B', Stp B H al B' (upd H T (.tup [x, y])) al ∧ Sit K B' (upd H T (.tup [x, y])) al σ ss mem ∧ Rep K B' (.ref T) (.tup [d, e]) := by
  obtain ⟨P, S'⟩ := S.lay (o := .tup [x, y]) hT
  exact ⟨_, P, S', .tup upd_same (.cons (Rep.mono P.same _ r1) (.cons (Rep.mono P.same _ r2) .nil))⟩
theorem di_enumT {ds : List D} (h : DT K te ss mem (.dat (.tup ds)) m1) : DI K (iEnumT K (tCons te tNil)) ss mem ds.length (fun i => .tup [.int (i : Nat), nthD ds i]) m1 := fun B H al σ R S k =>
  h B H al σ _ S fun B1 H1 al1 v P1 S1 r1 => by
    cases r1 with
    | @tup a xs _ s0 r =>
      refine ⟨a, xs, rfl, S1.seqT (SqT.of s0), k _ _ _ _ P1 S1 fun B2 H2 al2 σ2 ss2 mem2 e2 S2 => ?_⟩
      have s1 : SqT K H2 a xs := S2.seqT (SqT.of (e2 _ _ s0))
      refine ⟨fun i hi => ⟨⟨by rw [r.len]; exact hi, xs, s1, rfl⟩, fun x H' y => ?_⟩, fun i hi => ⟨by rw [r.len]; exact hi, xs, s1, rfl⟩⟩
      obtain ⟨v, h1, h2⟩ := r.get (nthD_get hi)
      obtain ⟨T, x', rfl, nT, rfl, y⟩ := y
      cases h1.symm.trans (y xs s1)
      exact S2.layPair nT (.int _) (Rep.mono e2 _ h2)
theorem di_enumL {ds : List D} (h : DT K te ss mem (.dat (.lst ds)) m1) : DI K (iEnum K (tCons te tNil)) ss mem ds.length (fun i => .tup [.int (i : Nat), nthD ds i]) m1 := fun B H al σ R S k =>
  h B H al σ _ S fun B1 H1 al1 v P1 S1 r1 => by
    cases r1 with
    | @lst a xs _ s r =>
      refine ⟨a, xs, rfl, S1.seqL s, k _ _ _ _ P1 S1 fun B2 H2 al2 σ2 ss2 mem2 e2 S2 => ?_⟩
      have s1 : SqL K H2 a xs := S2.seqL (e2.seq s)
      refine ⟨fun i hi => ?_, fun i hi => ⟨xs, s1, by rw [r.len]; exact hi⟩⟩
      obtain ⟨v, h1, h2⟩ := r.get (nthD_get hi)
      exact ⟨⟨xs, v, s1, h1⟩, fun x H' y => by
        obtain ⟨T, x', rfl, nT, rfl, y⟩ := y
        have q := y xs s1
        rw [h1] at q
        cases q
        exact S2.layPair nT (.int _) (Rep.mono e2 _ h2)⟩
theorem di_zipT {ds es : List D} {t : TA} (h : DA K t ss mem [.tup ds, .tup es] m1) (hl : ds.length = es.length) : DI K (RZ.iZipA K t) ss mem ds.length (fun i => .tup [nthD ds i, nthD es i]) m1 := fun B H al σ R S k =>
  h B H al σ _ S fun B1 H1 al1 vs P1 S1 r1 => by
    obtain ⟨v, w, rfl, q1, q2⟩ := two_data r1
    cases q1 with
    | @tup a xs _ s0 r =>
      have s : SqT K B1 a xs := SqT.of s0
      cases q2 with
      | @tup b ys _ s0' r' =>
        have s' : SqT K B1 b ys := SqT.of s0'
        refine ⟨a, b, xs, ys, rfl, .inr ⟨S1.seqT s, S1.seqT s', k _ _ _ _ P1 S1 fun B2 H2 al2 σ2 ss2 mem2 e2 S2 => ?_⟩⟩
        have s1 : SqT K H2 a xs := S2.seqT (sameT e2 s)
        have s2 : SqT K H2 b ys := S2.seqT (sameT e2 s')
        refine ⟨fun i hi => ?_, fun i hi => ⟨xs, ys, s1, s2, .inl (by rw [r.len]; exact hi)⟩⟩
        obtain ⟨v, h1, h2⟩ := r.get (nthD_get hi)
        obtain ⟨v', h1', h2'⟩ := r'.get (nthD_get (show i < es.length by omega))
        exact ⟨⟨xs, ys, v, v', s1, s2, h1, h1'⟩, fun x H' y => by
          obtain ⟨T, x', y', rfl, nT, rfl, z, z'⟩ := y
          have q := z xs s1
          rw [h1] at q
          cases q
          have q' := z' ys s2
          rw [h1'] at q'
          cases q'
          exact S2.layPair nT (Rep.mono e2 _ h2) (Rep.mono e2 _ h2')⟩
theorem di_zipL {ds es : List D} {t : TA} (h : DA K t ss mem [.lst ds, .lst es] m1) (hl : ds.length = es.length) : DI K (iZip K t) ss mem ds.length (fun i => .tup [nthD ds i, nthD es i]) m1 := fun B H al σ R S k =>
  h B H al σ _ S fun B1 H1 al1 vs P1 S1 r1 => by
    obtain ⟨v, w, rfl, q1, q2⟩ := two_data r1
    cases q1 with
    | @lst a xs _ s r =>
      cases q2 with
      | @lst b ys _ s' r' =>
        refine ⟨a, b, xs, ys, rfl, S1.seqL s, S1.seqL s', k _ _ _ _ P1 S1 fun B2 H2 al2 σ2 ss2 mem2 e2 S2 => ?_⟩
        have s1 : SqL K H2 a xs := S2.seqL (e2.seq s)
        have s2 : SqL K H2 b ys := S2.seqL (e2.seq s')
        refine ⟨fun i hi => ?_, fun i hi => ⟨xs, ys, s1, s2, .inl (by rw [r.len]; exact hi)⟩⟩
        obtain ⟨v, h1, h2⟩ := r.get (nthD_get hi)
        obtain ⟨v', h1', h2'⟩ := r'.get (nthD_get (show i < es.length by omega))
        exact ⟨⟨xs, ys, v, v', s1, s2, h1, h1'⟩, fun x H' y => by
          obtain ⟨T, x', y', rfl, nT, rfl, z, z'⟩ := y
          have q := z xs s1
          rw [h1] at q
          cases q
          have q' := z' ys s2
          rw [h1'] at q'
          cases q'
          exact S2.layPair nT (Rep.mono e2 _ h2) (Rep.mono e2 _ h2')⟩
end
end DL
end
section
set_option Elab.async false
set_option linter.all false
set_option maxRecDepth 100000
/-! the rules whose reading names the written part, with that part written out (for blocks of comprehensions) -/
namespace DL
open PySem PySem.Spec PyProof.Rows L2
section
variable {X : Cx} (K : PySem.W.Frag)
theorem ixT (h : X.K = K := by rfl) : IxR X (rIxT K) := h ▸ ix_tup
theorem ixL (h : X.K = K := by rfl) : IxR X (rIxL K) := h ▸ ix_list
theorem slT (h : X.K = K := by rfl) : SlR X (rSlA K) := h ▸ sl_tupA
theorem slL (h : X.K = K := by rfl) : SlR X (rSlL K) := h ▸ sl_list
theorem opLtT (hu : X.A.units < cLine) (h : X.K = K := by rfl) : OpR X (compareOp .Lt) (rLtT K) := h ▸ op_ltT hu
theorem opEqD (hu : X.A.units + 64 < cLine) (h : X.K = K := by rfl) : OpR X (compareOp .Eq) (rEqD K) := h ▸ op_eqD hu
theorem opNeD (hu : X.A.units + 64 < cLine) (h : X.K = K := by rfl) : OpR X (compareOp .NotEq) (rNeD K) := h ▸ op_neD hu
theorem opInD (hu : X.A.units + 65 < cLine) (h : X.K = K := by rfl) : OpR X (compareOp .In) (rInD K) := h ▸ op_inD hu
theorem opNotInD (hu : X.A.units + 65 < cLine) (h : X.K = K := by rfl) : OpR X (compareOp .NotIn) (rNotInD K) := h ▸ op_notInD hu
theorem opCatA (h : X.K = K := by rfl) : OpR X (binaryOp .Add) (rCatA K) := h ▸ op_catA
theorem callIsi (h : X.K = K := by rfl) : CallR X (.builtin "isinstance") (rIsi K) := h ▸ call_isi
theorem callLen (h : X.K = K := by rfl) : CallR X (.builtin "len") (fun xs H Q => ∃ p ys, xs = [.ref p] ∧ (SqL K H p ys ∨ SqT K H p ys) ∧ Q (.int ys.length) H) := h ▸ call_len_seq
theorem crAll (hc : X.calm = true := by rfl) (h : X.K = K := by rfl) : CallR X (.builtin "all") (rAll K) := h ▸ cr_all hc
theorem crAny (hc : X.calm = true := by rfl) (h : X.K = K := by rfl) : CallR X (.builtin "any") (rAny K) := h ▸ cr_any hc
theorem peFld {e : Expr} {f : Str} {pos : Pos} {ta : TE} (ha : PE X e ta) (h : X.K = K := by rfl) (hb : attributeBase e f X.env (eval e X.env) = eval e X.env := by rfl) : PE X (.Attribute e f pos) (tFld K ta f) := h ▸ pe_fld ha hb
theorem pgTup (n : Nat) {es : List Expr} {k : Nat} {pos : Pos} {t : TGs} (ht : PGs X es t) (hc : X.calm = true := by rfl) (h : X.K = K := by rfl) (hn : (assignEach es X.env).length = n := by rfl) (hst : (assignEach es X.env).findIdx? (·.1) = none := by rfl) : PG X (.Tuple es k pos) (gTup K n t) := h ▸ pg_tup hc ht hn hst
theorem piList {tg l : Expr} {tl : TE} (hl : PE X l tl) (h : X.K = K := by rfl) : PI X tg l (iList K tl) := h ▸ pi_list hl
theorem piTup {tg l : Expr} {tl : TE} (hl : PE X l tl) (h : X.K = K := by rfl) : PI X tg l (iTup K tl) := h ▸ pi_tup hl
theorem piEnumT {e : Expr} {ta : TA} {p pos tpos : Pos} {elts : List Expr} {kk : Nat} (hg : Gl X "enumerate") (hm : X.mg "enumerate" = none) (ha : PA X [e] ta) (h : X.K = K := by rfl) (hs : starEach [e] X.env = [(false, eval e X.env)] := by rfl) :
    PI X (.Tuple elts kk tpos) (.Call (.Name "enumerate" p) [e] [] pos) (iEnumT K ta) := h ▸ pi_enumT hg hm ha hs
theorem piEnumL {e : Expr} {ta : TA} {p pos tpos : Pos} {elts : List Expr} {kk : Nat} (hg : Gl X "enumerate") (hm : X.mg "enumerate" = none) (ha : PA X [e] ta) (h : X.K = K := by rfl) (hs : starEach [e] X.env = [(false, eval e X.env)] := by rfl) :
    PI X (.Tuple elts kk tpos) (.Call (.Name "enumerate" p) [e] [] pos) (iEnum K ta) := h ▸ pi_enum hg hm ha hs
end
end DL
namespace DL
open PySem L2
theorem room_in {k : Nat} {A : Around} (r : Room k A) : A.units + 65 < cLine := by have := r.un; omega
end DL
end
section
set_option Elab.async false
set_option linter.all false
set_option maxRecDepth 100000
/-! loops whose turns leave names behind that nothing reads -/
namespace DL
open PySem PySem.Spec PyProof.Rows L2
section
variable {K : PySem.W.Frag} {ss ss1 ss2 : Sl} {mem m1 m2 m3 m4 : List Mc} {ta tb tc te : TE} {i j : Int} {d e : D} {r r' : Vl} {t u : TS} {out : Out}
theorem wipeS_len (s : Sl) : ∀ ks : List Nat, (wipeS s ks).length = s.length
  | [] => rfl
  | k :: ks => by
    show (List.set _ _ _).length = _
    rw [List.length_set, wipeS_len s ks]
theorem wipeS_some {s : Sl} {i : Nat} {r : Vl} : ∀ {ks : List Nat}, (wipeS s ks)[i]? = some (some r) → s[i]? = some (some r)
  | [], h => h
  | k :: ks, h => by
    have h : ((wipeS s ks).set k none)[i]? = some (some r) := h
    by_cases e : k = i
    · subst e
      by_cases hl : k < (wipeS s ks).length
      · rw [List.getElem?_set_self hl] at h
        cases h
      · rw [List.getElem?_eq_none (by rw [List.length_set]; omega)] at h
        cases h
    · rw [List.getElem?_set_ne e] at h
      exact wipeS_some h
theorem ds_wipe (ks : List Nat) (h : DS K t ss mem (.nx ss1 m1)) (e : wipeS ss1 ks = ss2) : DS K t ss mem (.nx ss2 m1) :=
  ds_forget h (by rw [← e, wipeS_len]) fun i r q => by
    rw [← e] at q
    exact wipeS_some q
/-! lists that are data, and tracked -/
theorem dt_tl {ds : List D} (h : DT K te ss mem (.tl ds) m1) : DT K te ss mem (.dat (.lst ds)) m1 := fun B H al σ Q S k =>
  h B H al σ _ S fun B1 H1 al1 v P1 S1 r1 => by
    obtain ⟨a, xs, rfl, h1, h2⟩ := r1
    exact k _ _ _ _ P1 S1 (.lst (SqL.of h1) h2)
theorem dt_lstT {t : TA} {ds : List D} (h : DA K t ss mem ds m1) (hl : ds.length ≤ 16777216 := by exact Nat.le_of_ble_eq_true rfl) : DT K (tLst t) ss mem (.tl ds) m1 := fun B H al σ Q S k =>
  h B H al σ _ S fun B1 H1 al1 vs P1 S1 r1 => by
    refine ⟨by rw [r1.len, sizeLine_eq]; exact hl, fun p np => ?_⟩
    obtain ⟨P, S'⟩ := S1.lay (o := .lst vs) np
    exact k _ _ _ _ (P1.trans P) S' ⟨p, vs, rfl, upd_same, RepAll.mono P.same ds r1⟩
theorem dt_catT {ds es : List D} (ha : DT K ta ss mem (.tl ds) m1) (hb : DT K tb ss m1 (.tl es) m2) (hl : ds.length + es.length ≤ 16777216) : DT K (tOp rCat ta tb) ss mem (.tl (ds ++ es)) m2 :=
  dt_op ha hb fun B H al σ v w Q S hv hw k => by
    obtain ⟨a, xs, rfl, a2, a3⟩ := hv
    obtain ⟨b, ys, rfl, b2, b3⟩ := hw
    refine ⟨a, b, xs, ys, rfl, rfl, S.sub _ _ a2, S.sub _ _ b2, by rw [a3.len, b3.len, sizeLine_eq]; exact hl, fun p np => ?_⟩
    obtain ⟨P, S'⟩ := S.lay (o := .lst (xs ++ ys)) np
    exact k _ _ _ _ P S' ⟨p, _, rfl, upd_same, RepAll.mono P.same _ (a3.append b3)⟩
/-- no own object beyond these is named -/
def ownsUnder (n : Nat) : Sl → Bool
  | [] => true
  | some (.own k) :: s => decide (k < n) && ownsUnder n s
  | _ :: s => ownsUnder n s
theorem ownsUnder_ok {n : Nat} : ∀ {s : Sl}, ownsUnder n s = true → ∀ (i k : Nat), s[i]? = some (some (Vl.own k)) → k < n
  | [], _, i, k, h => by simp at h
  | none :: s, h, 0, k, e => by cases e
  | none :: s, h, i + 1, k, e => ownsUnder_ok (s := s) h i k (by simpa using e)
  | some (.dat d) :: s, h, 0, k, e => by cases e
  | some (.dat d) :: s, h, i + 1, k, e => ownsUnder_ok (s := s) h i k (by simpa using e)
  | some (.tl d) :: s, h, 0, k, e => by cases e
  | some (.tl d) :: s, h, i + 1, k, e => ownsUnder_ok (s := s) h i k (by simpa using e)
  | some (.lk d) :: s, h, 0, k, e => by cases e
  | some (.lk d) :: s, h, i + 1, k, e => ownsUnder_ok (s := s) h i k (by simpa using e)
  | some (.own j) :: s, h, 0, k, e => by
    have h' : (decide (j < n) && ownsUnder n s) = true := h
    cases e
    exact of_decide_eq_true (Bool.and_eq_true_iff.mp h').1
  | some (.own j) :: s, h, i + 1, k, e => by
    have h' : (decide (j < n) && ownsUnder n s) = true := h
    exact ownsUnder_ok (s := s) (Bool.and_eq_true_iff.mp h').2 i k (by simpa using e)
/-- names and the last own objects are let go -/
theorem ds_shed (ks : List Nat) (more : List Mc) (h : DS K t ss mem (.nx ss1 (m1 ++ more))) (e : wipeS ss1 ks = ss2) (ho : ownsUnder m1.length ss2 = true) (hm : mem.length ≤ m1.length) : DS K t ss mem (.nx ss2 m1) :=
  ds_less h (by rw [← e, wipeS_len]) (fun i r q => by
    rw [← e] at q
    exact wipeS_some q) (ownsUnder_ok ho) hm
/-- ahead of a statement -/
theorem ds_pre (ks : List Nat) (e : wipeS ss ks = ss1) (h : DS K t ss1 mem out) : DS K t ss mem out := fun B H al σ Dn S k =>
  h B H al σ Dn (S.less (by rw [← e, wipeS_len]) fun i r q => by
    rw [← e] at q
    exact wipeS_some q) k
/-- for x in ..: the turns leave the names ks (x among them) behind, and more own objects -/
theorem ds_forW {wi : TI} {k : Nat} {tb : TS} {n : Nat} {it : Nat → D} (ks : List Nat) (f : Nat → Sl) (m : Nat → List Mc) (f0 : wipeS ss ks = f 0) (hi : DI K wi (f 0) mem n it (m 0)) (hlen : ∀ i, (m i).length = (m (i + 1)).length)
    (ho : ∀ i, ownsUnder (m i).length (f i) = true)
    (step : ∀ i, i < n → ∃ s' more, DS K tb ((f i).set k (some (.dat (it i)))) (m i) (.nx s' (m (i + 1) ++ more)) ∧ wipeS s' ks = f (i + 1)) : DS K (tFor wi (gName k) tb) ss mem (.nx (f n) (m n)) :=
  ds_pre ks f0 (ds_for_all hi f m rfl rfl fun i h => by
    obtain ⟨s', more, a, b⟩ := step i h
    exact ⟨_, _, dg_name, ds_shed ks more a b (ho (i + 1)) (by rw [hlen i]; exact Nat.le_refl _)⟩)
/-- where no own object changes -/
theorem ds_forP {wi : TI} {k : Nat} {tb : TS} {n : Nat} {it : Nat → D} (ks : List Nat) (f : Nat → Sl) (f0 : wipeS ss ks = f 0) (hi : DI K wi (f 0) mem n it m1)
    (step : ∀ i, i < n → ∃ s', DS K tb ((f i).set k (some (.dat (it i)))) m1 (.nx s' m1) ∧ wipeS s' ks = f (i + 1)) : DS K (tFor wi (gName k) tb) ss mem (.nx (f n) m1) :=
  ds_pre ks f0 (ds_for_all hi f (fun _ => m1) rfl rfl fun i h => by
    obtain ⟨s', a, b⟩ := step i h
    exact ⟨_, _, dg_name, ds_wipe ks a b⟩)
end
end DL
end
section
set_option Elab.async false
set_option linter.all false
set_option maxRecDepth 100000
/-! len of an instance by its own __len__; range with a step -/
namespace DL
open PySem PySem.Spec PyProof.Rows L2
section
variable {X : Cx} {CX : CXT} {k : Nat} {C f : Addr} {fd : FuncData} {ps : List Str} {sp : Sp} {E : XK}
def rLenOwn (C : Addr) (sp : Sp) (E : XK) : List V → Hp → VK → Prop := fun xs H Q => ∃ a dx fs, xs = [V.ref a] ∧ H a = some (.ins C dx fs) ∧ sp [.ref a] H (fun z H' => ∃ i, z = .int i ∧ 0 ≤ i ∧ i < 2 ^ 63 ∧ Q (.int i) H') E
theorem call_lenOwn (M : Meth X.K C "__len__" f) (F : FnOk X.prog X.w X.K X.mg X.base CX k f fd ps sp) (hr : Room (k + 1) X.A) (hb : Binds X.K fd ps []) (hx : Passes CX X E) : CallR X (.builtin "len") (rLenOwn C sp E) := by
  rintro pins s σ H _ us Q I r ⟨a, dx, fs, rfl, inst, said⟩
  obtain ⟨u, rfl, rfl⟩ : ∃ u, us = [u] ∧ u = Value.ref a := let ⟨u, e, z⟩ := r.one; ⟨u, e, z⟩
  have one : [a].length = ps.length := F.len _ _ _ _ said
  have bound : BindsTo s fd ⟨[.ref a], []⟩ (ps.zip [.ref a]) := by simpa using hb s [.ref a] I.kIn (by simpa using one)
  obtain ⟨_, fr⟩ := I.fr
  have own := (ins_get I.hok inst).choose_spec.1.look.choose_spec.1
  refine PySem.W.len_K fr I.ok.mod.kin own M.at_ M.fn (wpAny_call (codeAny_mono
    (F.run X.A.in1 X.stack s H ⟨[.ref a], []⟩ [.ref a] [.ref a] _ E hr.in1 I.env0.in1 bound (.cons rfl .nil) said) fun fl s' z => ?_))
  match fl, z with
  | .error err, z => exact hx pins σ H s err s' I z
  | .ok (.ret w), z =>
    obtain ⟨_, H', I', rel, i, rfl, ge, lt, k⟩ := I.after z
    obtain ⟨_, rfl⟩ := rel
    exact ⟨⟨ge, lt⟩, .int i, H', I'.tok _, ⟨_, rfl⟩, k⟩
end
section
variable {K : PySem.W.Frag} {ss ss1 ss2 : Sl} {mem m1 m2 m3 m4 : List Mc} {ta tb tc te : TE} {i j : Int} {d e : D} {r r' : Vl} {t u : TS} {out : Out}
theorem dt_lenOwn {C : Addr} {R : List D → D → Prop} {E : XK} {gs : List (Str × D)} (h : DT K te ss mem (.dat (.obj C gs)) m1) (hR : R [.obj C gs] (.int i)) (h0 : 0 ≤ i) (h1 : i < 2 ^ 63) : DT K (tCB (rLenOwn C (spP K 1 R) E) (tCons te tNil)) ss mem (.dat (.int i)) m1 := fun B H al σ Q S k =>
  h B H al σ _ S fun B1 H1 al1 v P1 S1 r1 => by
    have r0 := r1
    cases r1 with
    | @obj a _ dx fs _ s r =>
      refine ⟨a, dx, fs, rfl, S1.sub _ _ s, B1, [], [.dat (.obj C gs)], [], .int i, [], ⟨[.obj C gs], rfl, rfl, rfl, hR⟩, rfl, rfl, pack_slots S1.sub (.cons r0 .nil), fun B' H' v P S' rv => ?_⟩
      cases rv
      obtain ⟨P2, S2⟩ := S1.after P S'.sub
      exact ⟨i, rfl, h0, h1, k _ _ _ _ (P1.trans P2) S2 (.int i)⟩
theorem walks_rangeC (B : Hp) (lo c : Int) (n : Nat) : Walks K B (Itc lo c n) n fun i => .int (lo + (i : Nat) * c) := fun B1 H al σ ss mem e S =>
  ⟨fun i hi => ⟨hi, fun x H' y => by
    obtain ⟨rfl, rfl⟩ := y
    exact ⟨B1, Stp.refl _ _ _, S, .int _⟩⟩, fun i hi => hi⟩
theorem di_rng3 {t : TA} {c : Int} {n : Nat} (h : DA K t ss mem [.int i, .int j, .int c] m1) (hb : RgC i j c n) : DI K (iRng3 t) ss mem n (fun k => .int (i + (k : Nat) * c)) m1 := fun B H al σ R S k =>
  h B H al σ _ S fun B1 H1 al1 vs P1 S1 r1 => by
    cases r1 with
    | cons r1 r2 =>
      cases r2 with
      | cons r2 r3 =>
        cases r3 with
        | cons r3 r4 =>
          cases r4
          cases r1
          cases r2
          cases r3
          exact ⟨i, j, c, n, rfl, hb, k _ _ _ _ P1 S1 (walks_rangeC _ _ _ _)⟩
end
end DL
end
section
set_option Elab.async false
set_option linter.all false
set_option maxRecDepth 100000
/-! dicts whose keys are tuples of ints -/
namespace DL
open PySem PySem.Spec PyProof.Rows L2
theorem ik_inj {a b : List Int} (h : ik a = ik b) : a = b := List.map_inj_right (fun x y e => by injection e) |>.mp h
theorem ik_kV (a : List Int) : (ik a).map kV = a.map V.int := by unfold ik; rw [List.map_map]; rfl
def getI : List (List Int × D) → List Int → Option D
  | [], _ => none
  | p :: m, k => if p.1 = k then some p.2 else getI m k
def putI (m : List (List Int × D)) (k : List Int) (d : D) : List (List Int × D) :=
  if (getI m k).isSome = true then m.map (fun p => if p.1 = k then (p.1, d) else p) else m ++ [(k, d)]
def dropI (m : List (List Int × D)) (k : List Int) : List (List Int × D) := m.filter fun p => decide (p.1 ≠ k)
section
variable {K : PySem.W.Frag} {B B' : Hp}
theorem rep_key {v : V} {ns : List Int} (h : Rep K B v (rowD ns)) : ∃ b, v = .ref b ∧ B b = some (.tup ((ik ns).map kV)) := by
  cases h with
  | tup s r =>
    cases r.ints
    exact ⟨_, rfl, by rw [ik_kV]; exact s⟩
theorem key_rep {b : Addr} {ns : List Int} (h : B b = some (.tup ((ik ns).map kV))) : Rep K B (.ref b) (rowD ns) :=
  .tup (by rw [← ik_kV]; exact h) (RepAll.ofInts ns)
theorem RepKv.get {m : List (List Int × D)} {kvs : List (List L2.Key × V)} (h : RepKv K B kvs m) (k : List Int) :
    (∃ v d, valV kvs (ik k) = some v ∧ getI m k = some d ∧ Rep K B v d) ∨ (valV kvs (ik k) = none ∧ getI m k = none) := by
  induction m generalizing kvs with
  | nil => cases h; exact .inr ⟨rfl, rfl⟩
  | cons p m ih =>
    obtain ⟨f, d⟩ := p
    cases h with
    | @cons _ v vs _ _ h1 h2 =>
      by_cases e : f = k
      · subst e
        exact .inl ⟨v, d, valV_pos rfl, if_pos rfl, h1⟩
      · have e' : ¬ ik f = ik k := fun z => e (ik_inj z)
        rcases ih h2 with ⟨v', d', a, b, c⟩ | ⟨a, b⟩
        · exact .inl ⟨v', d', (valV_neg e').trans a, (if_neg e).trans b, c⟩
        · exact .inr ⟨(valV_neg e').trans a, (if_neg e).trans b⟩
theorem RepKv.len {m : List (List Int × D)} {kvs : List (List L2.Key × V)} (h : RepKv K B kvs m) : kvs.length = m.length := by
  induction m generalizing kvs with
  | nil => cases h; rfl
  | cons p m ih =>
    cases h with
    | cons h1 h2 => rw [List.length_cons, List.length_cons, ih h2]
theorem RepKv.snoc {m : List (List Int × D)} {kvs : List (List L2.Key × V)} {k : List Int} {v : V} {d : D} (h : RepKv K B kvs m) (r : Rep K B v d) : RepKv K B (kvs ++ [(ik k, v)]) (m ++ [(k, d)]) := by
  induction m generalizing kvs with
  | nil => cases h; exact .cons r .nil
  | cons p m ih =>
    cases h with
    | cons h1 h2 => exact .cons h1 (ih h2)
theorem RepKv.repl {m : List (List Int × D)} {kvs : List (List L2.Key × V)} {k : List Int} {v : V} {d : D} (h : RepKv K B kvs m) (r : Rep K B v d) :
    RepKv K B (kvs.map fun kv => if kv.1 = ik k then (kv.1, v) else kv) (m.map fun p => if p.1 = k then (p.1, d) else p) := by
  induction m generalizing kvs with
  | nil => cases h; exact .nil
  | cons p m ih =>
    obtain ⟨f, x⟩ := p
    cases h with
    | @cons _ y vs _ _ h1 h2 =>
      rw [List.map_cons, List.map_cons]
      by_cases e : f = k
      · subst e
        rw [if_pos rfl, if_pos rfl]
        exact .cons r (ih h2)
      · rw [if_neg (fun (z : ik f = ik k) => e (ik_inj z)), if_neg e]
        exact .cons h1 (ih h2)
theorem RepKv.put {m : List (List Int × D)} {kvs : List (List L2.Key × V)} {k : List Int} {v : V} {d : D} (h : RepKv K B kvs m) (r : Rep K B v d) : RepKv K B (putK kvs (ik k) v) (putI m k d) := by
  unfold putK putI
  rw [valV_any]
  rcases h.get k with ⟨v', d', a, b, _⟩ | ⟨a, b⟩
  · rw [a, b]
    exact h.repl r
  · rw [a, b]
    exact h.snoc r
theorem RepKv.drop {m : List (List Int × D)} {kvs : List (List L2.Key × V)} {k : List Int} (h : RepKv K B kvs m) : RepKv K B (dropK kvs (ik k)) (dropI m k) := by
  unfold dropK dropI
  induction m generalizing kvs with
  | nil => cases h; exact .nil
  | cons p m ih =>
    obtain ⟨f, x⟩ := p
    cases h with
    | @cons _ y vs _ _ h1 h2 =>
      rw [List.filter_cons, List.filter_cons]
      by_cases e : f = k
      · subst e
        simp only [ne_eq, not_true_eq_false, decide_false, Bool.false_eq_true, if_false]
        exact ih h2
      · have e' : ¬ ik f = ik k := fun z => e (ik_inj z)
        simp only [ne_eq, e, e', not_false_eq_true, decide_true, if_true]
        exact .cons h1 (ih h2)
theorem RepKv.at {m : List (List Int × D)} {kvs : List (List L2.Key × V)} (h : RepKv K B kvs m) {i : Nat} {k : List L2.Key} {v : V} (e : kvs[i]? = some (k, v)) : ∃ f d, m[i]? = some (f, d) ∧ k = ik f ∧ Rep K B v d := by
  induction m generalizing kvs i with
  | nil => cases h; simp at e
  | cons p m ih =>
    cases h with
    | @cons f y vs d _ h1 h2 =>
      cases i with
      | zero =>
        have e' := Option.some.inj e
        injection e' with e1 e2
        exact ⟨f, d, rfl, e1.symm, e2 ▸ h1⟩
      | succ i => exact ih h2 (i := i) (by simpa using e)
end
/-- what holds the dict m: data, an own one, a locked one -/
inductive IsDic (mem : List Mc) : Vl → List (List Int × D) → Prop
  | dat {m : List (List Int × D)} : IsDic mem (.dat (.dic m)) m
  | own {n : Nat} {m : List (List Int × D)} : mem[n]? = some (.dic m) → IsDic mem (.own n) m
  | lk {m : List (List Int × D)} : IsDic mem (.lk m) m
section
variable {K : PySem.W.Frag} {ss ss1 ss2 : Sl} {mem m1 m2 m3 m4 : List Mc} {ta tb tc te td ty tx tv : TE} {i j : Int} {d e : D} {r r' x : Vl} {t u : TS} {out : Out} {k : List Int} {m : List (List Int × D)}
theorem dic_at {B H : Hp} {al : List Addr} {σ : L2.St} {v : V} (S : Sit K B H al σ ss mem) (hv : VlOk K B al v x) (h : IsDic mem x m) : ∃ a kvs, v = .ref a ∧ Rd H a (.dT kvs) ∧ RepKv K B kvs m := by
  cases h with
  | dat =>
    cases hv with
    | dic s r => exact ⟨_, _, rfl, sameRd S.sub s, r⟩
  | own hm =>
    obtain ⟨a, h1, rfl⟩ := hv
    obtain ⟨_, kvs, h2, h3⟩ := S.mem _ _ _ h1 hm
    exact ⟨a, kvs, rfl, .inl h2, h3⟩
  | lk =>
    obtain ⟨a, o, kvs, rfl, h2, h3⟩ := hv
    exact ⟨a, kvs, rfl, .inr ⟨o, S.sub _ _ h2⟩, h3⟩
theorem dic_get {B H : Hp} {al : List Addr} {σ : L2.St} {v w : V} (S : Sit K B H al σ ss mem) (hv : VlOk K B al v x) (h : IsDic mem x m) (hw : Rep K B w (rowD k)) :
    ∃ a o, v = .ref a ∧ DGet H a w o ∧ ((∃ y d, o = some y ∧ getI m k = some d ∧ Rep K B y d) ∨ (o = none ∧ getI m k = none)) := by
  obtain ⟨a, kvs, rfl, h1, h2⟩ := dic_at S hv h
  obtain ⟨b, rfl, h3⟩ := rep_key hw
  refine ⟨a, valV kvs (ik k), rfl, .inr ⟨kvs, ik k, b, h1, rfl, S.sub _ _ h3, rfl⟩, ?_⟩
  rcases h2.get k with ⟨y, d, e1, e2, e3⟩ | ⟨e1, e2⟩
  · exact .inl ⟨y, d, e1, e2, e3⟩
  · exact .inr ⟨e1, e2⟩
/-- {} -/
theorem dt_dnew : DT K tDNewT ss mem (.own mem.length) (mem ++ [.dic []]) := fun B H al σ Q S k p np => by
  have nb : B p = none := S.sub.free np
  obtain ⟨P, S'⟩ := S.layOwn (o := .dT []) (m := .dic []) np ⟨nb, _, upd_same, .nil⟩
  exact k _ _ _ _ P S' ⟨p, by rw [← S.mlen, List.getElem?_append_right (Nat.le_refl _), Nat.sub_self]; rfl, rfl⟩
/-- d[k] -/
theorem dt_dget (hd : DT K td ss mem x m1) (hy : DT K ty ss m1 (.dat (rowD k)) m2) (hm : IsDic m2 x m) (h : getI m k = some d) : DT K (tDGet td ty) ss mem (.dat d) m2 := fun B H al σ Q S q =>
  hd B H al σ _ S fun B1 H1 al1 v P1 S1 r1 => hy B1 H1 al1 σ _ S1 fun B2 H2 al2 w P2 S2 r2 => by
    obtain ⟨a, o, rfl, g, z⟩ := dic_get S2 (r1.step P2) hm r2
    rcases z with ⟨y, d', rfl, e2, e3⟩ | ⟨_, e2⟩
    · rw [h] at e2
      cases e2
      exact ⟨a, y, rfl, g, q _ _ _ _ (P1.trans P2) S2 e3⟩
    · rw [h] at e2
      cases e2
/-- k in d -/
theorem dt_din (hy : DT K ty ss mem (.dat (rowD k)) m1) (hd : DT K td ss m1 x m2) (hm : IsDic m2 x m) : DT K (tDIn ty td) ss mem (.dat (.bl (getI m k).isSome)) m2 := fun B H al σ Q S q =>
  hy B H al σ _ S fun B1 H1 al1 w P1 S1 r1 => hd B1 H1 al1 σ _ S1 fun B2 H2 al2 v P2 S2 r2 => by
    obtain ⟨a, o, rfl, g, z⟩ := dic_get S2 r2 hm (Rep.mono P2.same _ r1)
    refine ⟨a, o, rfl, g, ?_⟩
    have e : o.isSome = (getI m k).isSome := by
      rcases z with ⟨y, d', rfl, e2, _⟩ | ⟨rfl, e2⟩
      · rw [e2]; rfl
      · rw [e2]; rfl
    rw [e]
    exact q _ _ _ _ (P1.trans P2) S2 (.bl _)
theorem dt_dnotin (hy : DT K ty ss mem (.dat (rowD k)) m1) (hd : DT K td ss m1 x m2) (hm : IsDic m2 x m) : DT K (tDNotIn ty td) ss mem (.dat (.bl (!(getI m k).isSome))) m2 := fun B H al σ Q S q =>
  hy B H al σ _ S fun B1 H1 al1 w P1 S1 r1 => hd B1 H1 al1 σ _ S1 fun B2 H2 al2 v P2 S2 r2 => by
    obtain ⟨a, o, rfl, g, z⟩ := dic_get S2 r2 hm (Rep.mono P2.same _ r1)
    refine ⟨a, o, rfl, g, ?_⟩
    have e : o.isSome = (getI m k).isSome := by
      rcases z with ⟨y, d', rfl, e2, _⟩ | ⟨rfl, e2⟩
      · rw [e2]; rfl
      · rw [e2]; rfl
    rw [e]
    exact q _ _ _ _ (P1.trans P2) S2 (.bl _)
/-- d.get(k, z) -/
theorem dt_dget2 (hd : DT K td ss mem x m1) (hm1 : IsDic m1 x m) (hy : DT K ty ss m1 (.dat (rowD k)) m2) (hx : DT K tx ss m2 (.dat e) m3) (hm : IsDic m3 x m) : DT K (tDGet2 td ty tx) ss mem (.dat ((getI m k).getD e)) m3 := fun B H al σ Q S q =>
  hd B H al σ _ S fun B1 H1 al1 v P1 S1 r1 => by
    obtain ⟨a1, kv1, ev1, q1, _⟩ := dic_at S1 r1 hm1
    refine ⟨a1, ev1, .inr ⟨_, q1⟩, hy B1 H1 al1 σ _ S1 fun B2 H2 al2 w P2 S2 r2 => hx B2 H2 al2 σ _ S2 fun B3 H3 al3 z P3 S3 r3 => ?_⟩
    obtain ⟨a, o, ev, g, zz⟩ := dic_get S3 (r1.step (P2.trans P3)) hm (Rep.mono P3.same _ r2)
    have ea : a = a1 := by
      have e' := ev.symm.trans ev1
      injection e'
    subst ea
    refine ⟨o, g, ?_⟩
    rcases zz with ⟨y, d', rfl, e2, e3⟩ | ⟨rfl, e2⟩
    · rw [e2] at q
      exact q _ _ _ _ ((P1.trans P2).trans P3) S3 e3
    · rw [e2] at q
      exact q _ _ _ _ ((P1.trans P2).trans P3) S3 r3
/-- d[k] = v, d own -/
theorem ds_dput {n : Nat} (hv : DT K tv ss mem (.dat d) m1) (hd : DT K td ss m1 (.own n) m2) (hy : DT K ty ss m2 (.dat (rowD k)) m3) (hm : m3[n]? = some (.dic m)) (hl : m.length < 16777216) :
    DS K (sDPut td ty tv) ss mem (.nx ss (m3.set n (.dic (putI m k d)))) := fun B H al σ Dn S q =>
  hv B H al σ _ S fun B1 H1 al1 v P1 S1 r1 => hd B1 H1 al1 σ _ S1 fun B2 H2 al2 o P2 S2 r2 => hy B2 H2 al2 σ _ S2 fun B3 H3 al3 y P3 S3 r3 => by
    obtain ⟨a, a1, rfl⟩ := r2.step P3
    obtain ⟨b0, kvs, a2, a3⟩ := S3.mem n a _ a1 hm
    obtain ⟨b, rfl, h3⟩ := rep_key r3
    obtain ⟨P4, S4⟩ := S3.write (o := .dT (putK kvs (ik k) v)) (m := .dic (putI m k d)) a1 b0 ⟨b0, _, upd_same, a3.put (Rep.mono (P2.trans P3).same d r1)⟩
    exact ⟨a, _, rfl, DPut.t a2 (S3.sub _ _ h3) (by rw [a3.len, sizeLine_eq]; exact hl), q _ _ _ (((P1.trans P2).trans P3).trans P4) σ S4⟩
/-- an own dict at a slot becomes data, ahead of a statement -/
theorem Sit.frzDic {B H : Hp} {al : List Addr} {σ : L2.St} (S : Sit K B H al σ ss mem) {n : Nat} {v : V} (hv : VlOk K B al v (.own n)) (hm : mem[n]? = some (.dic m)) :
    ∃ B', Stp B H al B' H al ∧ Sit K B' H al σ ss (mem.set n .gone) ∧ Rep K B' v (.dic m) := by
  obtain ⟨a, a1, rfl⟩ := hv
  obtain ⟨b0, kvs, a2, a3⟩ := S.mem n a _ a1 hm
  obtain ⟨P, S'⟩ := S.freeze a1 b0 a2
  exact ⟨_, P, S', .dic (.inl upd_same) (RepKv.mono P.same _ a3)⟩
theorem dt_frzD {n : Nat} (h : DT K te ss mem (.own n) m1) (hm : m1[n]? = some (.dic m)) : DT K te ss mem (.dat (.dic m)) (m1.set n .gone) := fun B H al σ Q S k =>
  h B H al σ _ S fun B1 H1 al1 v P1 S1 r1 => by
    obtain ⟨B2, P2, S2, r2⟩ := S1.frzDic r1 hm
    exact k _ _ _ _ (P1.trans P2) S2 r2
theorem ds_frzD {n : Nat} (i : Nat) (hi : ss[i]? = some (some (.own n))) (hm : mem[n]? = some (.dic m)) (h : DS K t (ss.set i (some (.dat (.dic m)))) (mem.set n .gone) out) : DS K t ss mem out := fun B H al σ Dn S q => by
  obtain ⟨v, h1, h2⟩ := S.slot i _ hi
  obtain ⟨B1, P1, S1, r1⟩ := S.frzDic h2 hm
  have S2 : Sit K B1 H al σ (ss.set i (some (.dat (.dic m)))) (mem.set n .gone) := by
    refine ⟨S1.sub, by rw [List.length_set]; exact S1.len, fun j z e => ?_, S1.mlen, S1.mem, S1.nd, S1.there⟩
    by_cases hj : j = i
    · subst hj
      have hl : j < ss.length := (List.getElem?_eq_some_iff.mp hi).1
      rw [List.getElem?_set_self hl] at e
      have e' := Option.some.inj (Option.some.inj e)
      subst e'
      exact ⟨v, h1, r1⟩
    · rw [List.getElem?_set_ne (Ne.symm hj)] at e
      exact S1.slot j z e
  exact h B1 H al σ Dn S2 fun B2 H2 al2 P2 => q _ _ _ (P1.trans P2)
end
end DL
end
section
set_option Elab.async false
set_option linter.all false
set_option maxRecDepth 100000
/-! dicts that are walked: locked for the while -/
namespace DL
open PySem PySem.Spec PyProof.Rows L2
/-- a dict's lock alone tells them apart -/
structure Alike (B B' : Hp) : Prop where
  oth : ∀ a u, (∀ kvs, ¬ Rd B a (.dT kvs)) → B a = some u → B' a = some u
  dic : ∀ a kvs, Rd B a (.dT kvs) → Rd B' a (.dT kvs)
section
variable {K : PySem.W.Frag} {B B' : Hp}
theorem noRd {a : Addr} {u : HO} (h : B a = some u) (h1 : ∀ kvs, u ≠ .dT kvs) (h2 : ∀ o kvs, u ≠ .frz o (.dT kvs)) : ∀ kvs, ¬ Rd B a (.dT kvs) := fun kvs z => by
  rcases z with z | ⟨o, z⟩
  · rw [h] at z
    exact h1 kvs (Option.some.inj z)
  · rw [h] at z
    exact h2 o kvs (Option.some.inj z)
theorem Alike.L (e : Alike B B') {a : Addr} {xs : List V} (h : SqL K B a xs) : SqL K B' a xs := by
  rcases h with (h | ⟨o, h⟩) | h
  · exact .inl (.inl (e.oth _ _ (noRd h (fun _ z => by cases z) fun _ _ z => by cases z) h))
  · exact .inl (.inr ⟨o, e.oth _ _ (noRd h (fun _ z => by cases z) fun _ _ z => by cases z) h⟩)
  · exact .inr h
theorem Alike.T (e : Alike B B') {a : Addr} {xs : List V} (h : SqT K B a xs) : SqT K B' a xs := by
  rcases h with (h | ⟨o, h⟩) | h
  · exact .inl (.inl (e.oth _ _ (noRd h (fun _ z => by cases z) fun _ _ z => by cases z) h))
  · exact .inl (.inr ⟨o, e.oth _ _ (noRd h (fun _ z => by cases z) fun _ _ z => by cases z) h⟩)
  · exact .inr h
mutual
theorem Rep.alike (e : Alike B B') : ∀ (d : D) {v : V}, Rep K B v d → Rep K B' v d
  | .non, _, h => by cases h; exact .non
  | .bl b, _, h => by cases h; exact .bl b
  | .int i, _, h => by cases h; exact .int i
  | .str x, _, h => by cases h; exact .str x
  | .lst ds, _, h => by
    cases h with
    | lst s r => exact .lst (e.L s) (RepAll.alike e ds r)
  | .tup ds, _, h => by
    cases h with
    | tup s r => exact .tup (e.oth _ _ (noRd s (fun _ z => by cases z) fun _ _ z => by cases z) s) (RepAll.alike e ds r)
  | .ctp ds, _, h => by
    cases h with
    | ctp s r => exact .ctp (e.T s) (RepAll.alike e ds r)
  | .dic ds, _, h => by
    cases h with
    | dic s r => exact .dic (e.dic _ _ s) (RepKv.alike e ds r)
  | .rls ds, _, h => by
    cases h with
    | rls s r => exact .rls (e.oth _ _ (noRd s (fun _ z => by cases z) fun _ _ z => by cases z) s) (RepAll.alike e ds r)
  | .obj C gs, _, h => by
    cases h with
    | obj s r => exact .obj (e.oth _ _ (noRd s (fun _ z => by cases z) fun _ _ z => by cases z) s) (RepFs.alike e gs r)
theorem RepAll.alike (e : Alike B B') : ∀ (ds : List D) {vs : List V}, RepAll K B vs ds → RepAll K B' vs ds
  | [], _, h => by cases h; exact .nil
  | d :: ds, _, h => by
    cases h with
    | cons h1 h2 => exact .cons (Rep.alike e d h1) (RepAll.alike e ds h2)
theorem RepFs.alike (e : Alike B B') : ∀ (ds : List (Str × D)) {vs : List (Str × V)}, RepFs K B vs ds → RepFs K B' vs ds
  | [], _, h => by cases h; exact .nil
  | (f, d) :: ds, _, h => by
    cases h with
    | cons h1 h2 => exact .cons (Rep.alike e d h1) (RepFs.alike e ds h2)
theorem RepKv.alike (e : Alike B B') : ∀ (ds : List (List Int × D)) {vs : List (List L2.Key × V)}, RepKv K B vs ds → RepKv K B' vs ds
  | [], _, h => by cases h; exact .nil
  | (f, d) :: ds, _, h => by
    cases h with
    | cons h1 h2 => exact .cons (Rep.alike e d h1) (RepKv.alike e ds h2)
end
theorem alike_lock {a : Addr} {o : Obj} {kvs : List (List L2.Key × V)} (h : B a = some (.dT kvs)) : Alike B (upd B a (.frz o (.dT kvs))) := by
  refine ⟨fun b u n e => ?_, fun b ks n => ?_⟩
  · have hb : b ≠ a := fun z => n kvs (by rw [z]; exact .inl h)
    rw [upd_ne hb]
    exact e
  · by_cases hb : b = a
    · subst hb
      rcases n with n | ⟨o', n⟩
      · rw [h] at n
        cases n
        exact .inr ⟨o, upd_same⟩
      · rw [h] at n
        cases n
    · rcases n with n | ⟨o', n⟩
      · exact .inl (by rw [upd_ne hb]; exact n)
      · exact .inr ⟨o', by rw [upd_ne hb]; exact n⟩
theorem alike_unlock {a : Addr} {o : Obj} {kvs : List (List L2.Key × V)} (h : B a = some (.frz o (.dT kvs))) : Alike B (upd B a (.dT kvs)) := by
  refine ⟨fun b u n e => ?_, fun b ks n => ?_⟩
  · have hb : b ≠ a := fun z => n kvs (by rw [z]; exact .inr ⟨o, h⟩)
    rw [upd_ne hb]
    exact e
  · by_cases hb : b = a
    · subst hb
      rcases n with n | ⟨o', n⟩
      · rw [h] at n
        cases n
      · rw [h] at n
        cases n
        exact .inl upd_same
    · rcases n with n | ⟨o', n⟩
      · exact .inl (by rw [upd_ne hb]; exact n)
      · exact .inr ⟨o', by rw [upd_ne hb]; exact n⟩
end
section
variable {K : PySem.W.Frag} {ss ss1 ss2 : Sl} {mem m1 m2 m3 m4 : List Mc} {ta tb tc te td ty tx tv : TE} {i j : Int} {d e : D} {r r' x : Vl} {t u : TS} {out : Out} {k : List Int} {m : List (List Int × D)}
/-- the own objects, under a dict's lock that comes or goes -/
theorem McOk.alike {B H B' H' : Hp} {a c : Addr} {m : Mc} (e : Alike B B') (hn : B' a = none → H' a = H a) (h0 : B a = none → B' a = none) (h : McOk K B H a m) : McOk K B' H' a m := by
  cases m with
  | gone => trivial
  | lst ds =>
    obtain ⟨b0, xs, h3, h4⟩ := h
    exact ⟨h0 b0, xs, by rw [hn (h0 b0)]; exact h3, RepAll.alike e ds h4⟩
  | obj C fs =>
    obtain ⟨b0, dx, fv, h3, h4⟩ := h
    exact ⟨h0 b0, dx, fv, by rw [hn (h0 b0)]; exact h3, RepFs.alike e fs h4⟩
  | dic ds =>
    obtain ⟨b0, kv, h3, h4⟩ := h
    exact ⟨h0 b0, kv, by rw [hn (h0 b0)]; exact h3, RepKv.alike e ds h4⟩
/-- slots with nothing said -/
theorem VlOk.alike {B B' : Hp} {al : List Addr} {v : V} (e : Alike B B') : ∀ {r : Vl}, (∀ m, r ≠ .lk m) → VlOk K B al v r → VlOk K B' al v r
  | .dat d, _, h => Rep.alike e d h
  | .own n, _, h => h
  | .tl ds, _, ⟨a, xs, h1, h2, h3⟩ => ⟨a, xs, h1, e.oth _ _ (noRd h2 (fun _ z => by cases z) fun _ _ z => by cases z) h2, RepAll.alike e ds h3⟩
  | .lk m, n, _ => absurd rfl (n m)
/-- no slot holds a locked dict -/
def NoLk (ss : Sl) : Prop := ∀ (i : Nat) (m : List (List Int × D)), ss[i]? ≠ some (some (Vl.lk m))
theorem Sit.lock {B H : Hp} {al : List Addr} {σ : L2.St} {i : Nat} {a : Addr} {o : Obj} {kvs : List (List L2.Key × V)} (S : Sit K B H al σ ss mem) (nl : NoLk ss) (hi : σ[i]? = some (some (.ref a))) (hb : B a = some (.dT kvs)) (r : RepKv K B kvs m) :
    Sit K (upd B a (.frz o (.dT kvs))) (upd H a (.frz o (.dT kvs))) al σ (ss.set i (some (.lk m))) mem := by
  have A := alike_lock (o := o) hb
  refine ⟨fun b u e => ?_, by rw [List.length_set]; exact S.len, fun j z e => ?_, S.mlen, fun n c q h1 h2 => ?_, S.nd, fun c h => ?_⟩
  · by_cases hb' : b = a
    · subst hb'
      rw [upd_same] at e ⊢
      exact e
    · rw [upd_ne hb'] at e ⊢
      exact S.sub b u e
  · by_cases hj : j = i
    · subst hj
      have hl : j < ss.length := by
        have := (List.getElem?_eq_some_iff.mp e).1
        rwa [List.length_set] at this
      rw [List.getElem?_set_self hl] at e
      have e' := Option.some.inj (Option.some.inj e)
      subst e'
      exact ⟨_, hi, a, o, kvs, rfl, upd_same, RepKv.alike A m r⟩
    · rw [List.getElem?_set_ne (Ne.symm hj)] at e
      obtain ⟨v, h1, h2⟩ := S.slot j z e
      exact ⟨v, h1, h2.alike A fun m' z' => nl j m' (by rw [e, z'])⟩
  · refine (S.mem n c q h1 h2).alike (c := a) A (fun z => ?_) fun z => ?_
    · by_cases hc : c = a
      · subst hc
        rw [upd_same] at z
        cases z
      · exact upd_ne hc
    · by_cases hc : c = a
      · subst hc
        rw [hb] at z
        cases z
      · rw [upd_ne hc]
        exact z
  · by_cases hc : c = a
    · subst hc
      rw [upd_same]
      exact fun z => nomatch z
    · rw [upd_ne hc]
      exact S.there c h
/-- behind the lock -/
theorem Sit.unlock {B H B' H' : Hp} {al al' : List Addr} {σ σ' : L2.St} {a : Addr} {o : Obj} {kvs : List (List L2.Key × V)} (S : Sit K B H al σ ss mem) (hb : B a = some (.dT kvs))
    (P : Stp (upd B a (.frz o (.dT kvs))) (upd H a (.frz o (.dT kvs))) al B' H' al') (S' : Sit K B' H' al' σ' ss1 m1) :
    B' a = some (.frz o (.dT kvs)) ∧ H' a = some (.frz o (.dT kvs)) ∧ Stp B H al (upd B' a (.dT kvs)) (upd H' a (.dT kvs)) al' ∧ Same (upd B' a (.dT kvs)) (upd H' a (.dT kvs)) ∧ Alike B' (upd B' a (.dT kvs)) ∧
    (∀ (n : Nat) (c : Addr) (q : Mc), al'[n]? = some c → m1[n]? = some q → McOk K (upd B' a (.dT kvs)) (upd H' a (.dT kvs)) c q) ∧ (∀ c ∈ al', (upd H' a (.dT kvs)) c ≠ none) := by
  have e1 : B' a = some (.frz o (.dT kvs)) := P.same _ _ upd_same
  have e2 : H' a = some (.frz o (.dT kvs)) := S'.sub _ _ e1
  have ha : H a = some (.dT kvs) := S.sub _ _ hb
  have A := alike_unlock e1
  refine ⟨e1, e2, ⟨fun b u e => ?_, fun b u e n => ?_, fun b h => ?_, fun b h => ?_, ?_⟩, fun b u e => ?_, A, fun n c q h1 h2 => ?_, fun c h => ?_⟩
  · by_cases h : b = a
    · subst h
      rw [upd_same]
      exact hb.symm.trans e
    · rw [upd_ne h]
      exact P.same b u (by rw [upd_ne h]; exact e)
  · by_cases h : b = a
    · subst h
      rw [upd_same]
      exact ha.symm.trans e
    · rw [upd_ne h]
      exact P.frame b u (by rw [upd_ne h]; exact e) n
  · by_cases h' : b = a
    · subst h'
      exact .inl (by rw [hb]; exact fun z => nomatch z)
    · rw [upd_ne h'] at h
      have z := P.fresh b h
      rw [upd_ne h', upd_ne h'] at z
      exact z
  · by_cases h' : b = a
    · subst h'
      rw [upd_same]
      exact fun z => nomatch z
    · rw [upd_ne h']
      exact P.stay b (by rw [upd_ne h']; exact h)
  · obtain ⟨ex, q, hx⟩ := P.ext
    refine ⟨ex, q, fun c h => ?_⟩
    have z := hx c h
    by_cases h' : c = a
    · subst h'
      rw [upd_same] at z
      cases z
    · rw [upd_ne h'] at z
      exact z
  · by_cases h : b = a
    · subst h
      rw [upd_same] at e ⊢
      exact e
    · rw [upd_ne h] at e ⊢
      exact S'.sub b u e
  · refine (S'.mem n c q h1 h2).alike (c := a) A (fun z => ?_) fun z => ?_
    · by_cases hc : c = a
      · subst hc
        rw [upd_same] at z
        cases z
      · exact upd_ne hc
    · by_cases hc : c = a
      · subst hc
        rw [e1] at z
        cases z
      · rw [upd_ne hc]
        exact z
  · by_cases hc : c = a
    · subst hc
      rw [upd_same]
      exact fun z => nomatch z
    · rw [upd_ne hc]
      exact S'.there c h
/-- under a lock of its own, or under one that stands -/
def tLkE (t : TE) : TE := fun σ H Q => tLockE t σ H Q ∨ t σ H Q
theorem pe_lk {X : Cx} {e : Expr} {t : TE} (h : PE X e t) : PE X e (tLkE t) := by
  refine ⟨fun pins s σ H Q I q => ?_⟩
  rcases q with q | q
  · exact (pe_lock h).run pins s σ H Q I q
  · exact h.run pins s σ H Q I q
def tLkS (t : TS) : TS := fun D σ H => tLock t D σ H ∨ t D σ H
theorem ps_lk {X : Cx} {st : Stmt} {t : TS} (h : PS X st t) : PS X st (tLkS t) := by
  refine ⟨fun pins s σ H D I q => ?_⟩
  rcases q with q | q
  · exact (ps_lock h).run pins s σ H D I q
  · exact h.run pins s σ H D I q
/-- the dict at slot i is locked while this runs -/
theorem dt_lk (i : Nat) (hi : ss[i]? = some (some (.dat (.dic m)))) (nl : NoLk ss) (hr : ∀ m', r ≠ .lk m') (h : DT K te (ss.set i (some (.lk m))) mem r m1) : DT K (tLkE te) ss mem r m1 := fun B H al σ Q S k => by
  obtain ⟨v, h1, h2⟩ := S.slot i _ hi
  cases h2 with
  | @dic a kvs _ s rk =>
    rcases s with s | ⟨o, s⟩
    · refine .inl ⟨a, .dT kvs, S.sub _ _ s, trivial, fun od => ?_⟩
      refine h _ _ al σ _ (S.lock nl h1 s rk) fun B' H' al' v' P S' rv => ?_
      obtain ⟨e1, e2, P', sub, A, hm, ht⟩ := S.unlock s P S'
      refine ⟨e2, k _ _ _ v' P' ⟨sub, S.len, fun j z e => ?_, S'.mlen, hm, S'.nd, ht⟩ (rv.alike A hr)⟩
      obtain ⟨w, w1, w2⟩ := S.slot j z e
      exact ⟨w, w1, w2.step P'⟩
    · refine .inr (h B H al σ _ ?_ fun B' H' al' v' P S' rv => k _ _ _ v' P (S.back P S') rv)
      refine ⟨S.sub, by rw [List.length_set]; exact S.len, fun j z e => ?_, S.mlen, S.mem, S.nd, S.there⟩
      by_cases hj : j = i
      · subst hj
        have hl : j < ss.length := (List.getElem?_eq_some_iff.mp hi).1
        rw [List.getElem?_set_self hl] at e
        have e' := Option.some.inj (Option.some.inj e)
        subst e'
        exact ⟨_, h1, a, o, kvs, rfl, s, rk⟩
      · rw [List.getElem?_set_ne (Ne.symm hj)] at e
        exact S.slot j z e
/-- k in the locked dict at slot i, its keys in their order -/
theorem di_keys {i : Nat} (hi : ss[i]? = some (some (.lk m))) : DI K (iKeys (tVar i)) ss mem m.length (fun j => rowD (m.getD j ([], .non)).1) mem := fun B H al σ R S k => by
  obtain ⟨v, h1, a, o, kvs, rfl, h2, h3⟩ := S.slot i _ hi
  refine ⟨.ref a, h1, a, o, rfl, .inr ⟨kvs, S.sub _ _ h2, k B H al _ (Stp.refl _ _ _) S fun B1 H1 al1 σ1 ss1 mem1 e1 S1 => ?_⟩⟩
  have h4 : H1 a = some (.frz o (.dT kvs)) := S1.sub _ _ (e1 _ _ h2)
  refine ⟨fun j hj => ⟨⟨h4, by rw [h3.len]; exact hj⟩, fun x H' y => ?_⟩, fun j hj => ⟨h4, by rw [h3.len]; exact hj⟩⟩
  obtain ⟨rfl, kk, w, q, y1, rfl, y2⟩ := y
  obtain ⟨f, d, z1, rfl, z3⟩ := h3.at y1
  have ef : (m.getD j ([], .non)).1 = f := by
    rw [List.getD_eq_getElem?_getD, z1]
    rfl
  show ∃ B', _ ∧ _ ∧ Rep K B' (.ref q) (rowD (m.getD j ([], D.non)).1)
  rw [ef]
  rcases Option.eq_none_or_eq_some (B1 q) with nq | ⟨u, nq⟩
  · -- the key's tuple is taken into the base
    have sB : Same B1 (upd B1 q (.tup ((ik f).map kV))) := fun b u' e => by rw [upd_ne (ne_of_none e nq)]; exact e
    have P : Stp B1 H' al1 (upd B1 q (.tup ((ik f).map kV))) H' al1 := by
      refine ⟨sB, fun b u' e _ => e, fun b h => ?_, fun b h => h, [], by rw [List.append_nil], fun _ h => by cases h⟩
      by_cases e : b = q
      · exact .inr (.inr (.inr ⟨_, by rw [e]; exact y2⟩))
      · rw [upd_ne e] at h
        exact .inl h
    refine ⟨_, P, ⟨fun b u' e => ?_, S1.len, fun l z e => ?_, S1.mlen, fun n c w' g1 g2 => ?_, S1.nd, S1.there⟩, key_rep upd_same⟩
    · by_cases hb : b = q
      · subst hb
        rw [upd_same] at e
        rw [← e]
        exact y2
      · rw [upd_ne hb] at e
        exact S1.sub b u' e
    · obtain ⟨v', v1, v2⟩ := S1.slot l z e
      exact ⟨v', v1, v2.step P⟩
    · have g := S1.mem n c w' g1 g2
      have hc : (∀ ys, H' c ≠ some (.tup ys)) → c ≠ q := fun ht z => ht _ (by rw [z]; exact y2)
      cases w' with
      | gone => trivial
      | lst ds =>
        obtain ⟨b0, xs, g3, g4⟩ := g
        exact ⟨by rw [upd_ne (hc fun ys z => by rw [g3] at z; cases z)]; exact b0, xs, g3, RepAll.mono sB ds g4⟩
      | obj C fs =>
        obtain ⟨b0, dx, fv, g3, g4⟩ := g
        exact ⟨by rw [upd_ne (hc fun ys z => by rw [g3] at z; cases z)]; exact b0, dx, fv, g3, RepFs.mono sB fs g4⟩
      | dic ds =>
        obtain ⟨b0, kv, g3, g4⟩ := g
        exact ⟨by rw [upd_ne (hc fun ys z => by rw [g3] at z; cases z)]; exact b0, kv, g3, RepKv.mono sB ds g4⟩
  · have z := S1.sub _ _ nq
    rw [y2] at z
    cases z
    exact ⟨B1, Stp.refl _ _ _, S1, key_rep nq⟩
/-- within, the locked dict is read -/
theorem dt_varLk {i : Nat} (h : ss[i]? = some (some (.lk m))) : DT K (tVar i) ss mem (.dat (.dic m)) mem := fun B H al σ Q S k => by
  obtain ⟨v, h1, a, o, kvs, rfl, h2, h3⟩ := S.slot i _ h
  exact ⟨_, h1, k _ _ _ _ (Stp.refl _ _ _) S (.dic (.inr ⟨o, h2⟩) h3)⟩
/-- the slot of a locked dict, seen as data again -/
theorem Sit.unLk {B H : Hp} {al : List Addr} {σ : L2.St} {i : Nat} (S : Sit K B H al σ ss mem) (hi : ss[i]? = some (some (.lk m))) : Sit K B H al σ (ss.set i (some (.dat (.dic m)))) mem := by
  refine ⟨S.sub, by rw [List.length_set]; exact S.len, fun j z e => ?_, S.mlen, S.mem, S.nd, S.there⟩
  by_cases hj : j = i
  · subst hj
    have hl : j < ss.length := (List.getElem?_eq_some_iff.mp hi).1
    rw [List.getElem?_set_self hl] at e
    have e' := Option.some.inj (Option.some.inj e)
    subst e'
    obtain ⟨v, h1, a, o, kvs, rfl, h2, h3⟩ := S.slot j _ hi
    exact ⟨_, h1, .dic (.inr ⟨o, h2⟩) h3⟩
  · rw [List.getElem?_set_ne (Ne.symm hj)] at e
    exact S.slot j z e
theorem Sit.toLk {B H : Hp} {al : List Addr} {σ : L2.St} {i : Nat} {a : Addr} {o : Obj} {kvs : List (List L2.Key × V)} (S : Sit K B H al σ ss mem) (hi : ss[i]? = some (some (.dat (.dic m)))) (h1 : σ[i]? = some (some (.ref a))) (s : B a = some (.frz o (.dT kvs))) (rk : RepKv K B kvs m) :
    Sit K B H al σ (ss.set i (some (.lk m))) mem := by
  refine ⟨S.sub, by rw [List.length_set]; exact S.len, fun j z e => ?_, S.mlen, S.mem, S.nd, S.there⟩
  by_cases hj : j = i
  · subst hj
    have hl : j < ss.length := (List.getElem?_eq_some_iff.mp hi).1
    rw [List.getElem?_set_self hl] at e
    have e' := Option.some.inj (Option.some.inj e)
    subst e'
    exact ⟨_, h1, a, o, kvs, rfl, s, rk⟩
  · rw [List.getElem?_set_ne (Ne.symm hj)] at e
    exact S.slot j z e
theorem ds_lkN (i : Nat) (hi : ss[i]? = some (some (.dat (.dic m)))) (nl : NoLk ss) (hs : ss1[i]? = some (some (.lk m))) (nl1 : NoLk (ss1.set i (some (.dat (.dic m))))) (h : DS K t (ss.set i (some (.lk m))) mem (.nx ss1 m1)) :
    DS K (tLkS t) ss mem (.nx (ss1.set i (some (.dat (.dic m)))) m1) := fun B H al σ Dn S k => by
  obtain ⟨v, h1, h2⟩ := S.slot i _ hi
  cases h2 with
  | @dic a kvs _ s rk =>
    rcases s with s | ⟨o, s⟩
    · refine .inl ⟨a, .dT kvs, S.sub _ _ s, trivial, fun od => ?_⟩
      refine h _ _ al σ _ (S.lock nl h1 s rk) fun B' H' al' P σ' S' => ?_
      obtain ⟨e1, e2, P', sub, A, hm, ht⟩ := S.unlock s P S'
      refine ⟨e2, k _ _ _ P' σ' ⟨sub, by rw [List.length_set]; exact S'.len, fun j z e => ?_, S'.mlen, hm, S'.nd, ht⟩⟩
      obtain ⟨w, w1, w2⟩ := (S'.unLk hs).slot j z e
      exact ⟨w, w1, w2.alike A fun m' z' => nl1 j m' (by rw [e, z'])⟩
    · exact .inr (h B H al σ _ (S.toLk hi h1 s rk) fun B' H' al' P σ' S' => k _ _ _ P σ' (S'.unLk hs))
theorem ds_lkR (i : Nat) (hi : ss[i]? = some (some (.dat (.dic m)))) (nl : NoLk ss) (hr : ∀ m', r ≠ .lk m') (h : DS K t (ss.set i (some (.lk m))) mem (.rt r m1)) : DS K (tLkS t) ss mem (.rt r m1) := fun B H al σ Dn S k => by
  obtain ⟨v, h1, h2⟩ := S.slot i _ hi
  cases h2 with
  | @dic a kvs _ s rk =>
    rcases s with s | ⟨o, s⟩
    · refine .inl ⟨a, .dT kvs, S.sub _ _ s, trivial, fun od => ?_⟩
      refine h _ _ al σ _ (S.lock nl h1 s rk) fun B' H' al' P σ' ss' v' S' rv => ?_
      obtain ⟨e1, e2, P', sub, A, hm, ht⟩ := S.unlock s P S'
      refine ⟨e2, k _ _ _ P' σ' (ss'.map fun _ => none) v' ⟨sub, by rw [List.length_map]; exact S'.len, fun j z e => ?_, S'.mlen, hm, S'.nd, ht⟩ (rv.alike A hr)⟩
      rw [List.getElem?_map] at e
      cases q : ss'[j]? with
      | none => rw [q] at e; cases e
      | some y => rw [q] at e; cases e
    · exact .inr (h B H al σ _ (S.toLk hi h1 s rk) fun B' H' al' P => k _ _ _ P)
end
end DL
end
section
set_option Elab.async false
set_option linter.all false
set_option maxRecDepth 100000
/-! defs one of whose arguments, wherever it stands, is an own object that they may change -/
namespace DL
open PySem PySem.Spec PyProof.Rows L2
/-- as the callee sees the argument -/
def re0 : Vl → Vl
  | .own _ => .own 0
  | r => r
def oneR (R : List Vl → Mc → D → Mc → Prop) : Rel := fun args mem d mem' => ∃ m m', mem = [m] ∧ mem' = [m'] ∧ R args m d m'
abbrev spM (K : PySem.W.Frag) (n : Nat) (R : List Vl → Mc → D → Mc → Prop) : Sp := spD K n (oneR R)
/-- arguments of any kind -/
def DAV (K : PySem.W.Frag) (t : TA) (ss : Sl) (mem : List Mc) (rs : List Vl) (mem' : List Mc) : Prop :=
  ∀ (B H : Hp) (al : List Addr) (σ : L2.St) (Q : List V → Hp → Prop), Sit K B H al σ ss mem → (∀ B' H' al' vs, Stp B H al B' H' al' → Sit K B' H' al' σ ss mem' → VlsOk K B' al' vs rs → Q vs H') → t σ H Q
section
variable {K : PySem.W.Frag} {ss ss1 ss2 : Sl} {mem m1 m2 m3 m4 : List Mc} {ta tb tc te : TE} {i j : Int} {d e : D} {r r' : Vl} {t u : TS} {out : Out}
theorem dav_nil : DAV K tNil ss mem [] mem := fun B H al σ Q S k => k _ _ _ [] (Stp.refl _ _ _) S trivial
theorem dav_cons {t : TA} {rs : List Vl} (h1 : DT K ta ss mem r m1) (h2 : DAV K t ss m1 rs m2) : DAV K (tCons ta t) ss mem (r :: rs) m2 := fun B H al σ Q S k =>
  h1 B H al σ _ S fun B1 H1 al1 v P1 S1 r1 => h2 B1 H1 al1 σ _ S1 fun B2 H2 al2 vs P2 S2 r2 => k _ _ _ _ (P1.trans P2) S2 ⟨r1.step P2, r2⟩
theorem VlsOk.get {B : Hp} {al : List Addr} : ∀ {vs : List V} {rs : List Vl} {i : Nat} {r : Vl}, VlsOk K B al vs rs → rs[i]? = some r → ∃ v, vs[i]? = some v ∧ VlOk K B al v r
  | [], [], i, r, _, e => by simp at e
  | v :: vs, r :: rs, 0, q, h, e => ⟨v, rfl, Option.some.inj e ▸ h.1⟩
  | v :: vs, r :: rs, i + 1, q, h, e => VlsOk.get (i := i) h.2 (by simpa using e)
  | [], r :: rs, i, q, h, e => h.elim
  | v :: vs, [], i, q, h, e => h.elim
/-- f(..), one own object among the arguments -/
theorem dt_callM {n p : Nat} {R : List Vl → Mc → D → Mc → Prop} {E : XK} {t : TA} {rs : List Vl} {m m' : Mc} (h : DAV K t ss mem rs m1) (ho : ∀ q ∈ rs, (∃ d, q = .dat d) ∨ q = .own p) (hm : m1[p]? = some m) (hR : R (rs.map re0) m d m') (hn : rs.length = n := by rfl) :
    DT K (tCall (spM K n R) [] E t) ss mem (.dat d) (m1.set p m') := fun B H al σ Q S k =>
  h B H al σ _ S fun B1 H1 al1 vs P1 S1 rv => by
    have hp : p < al1.length := by
      rw [S1.mlen]
      exact (List.getElem?_eq_some_iff.mp hm).1
    have a1 : al1[p]? = some al1[p] := List.getElem?_eq_getElem hp
    generalize al1[p] = a at a1
    refine ⟨B1, [a], rs.map re0, [m], d, [m'], ⟨m, m', rfl, rfl, hR⟩, by rw [List.length_map]; exact hn, rfl, ?_, fun B' H' v P S' rd => ?_⟩
    · rw [List.append_nil]
      refine ⟨S1.sub, by simp only [List.length_map]; exact rv.len, fun i q e => ?_, rfl, fun l c w e1 e2 => ?_, List.pairwise_singleton _ _, fun c hc => ?_⟩
      · simp only [List.getElem?_map, Option.map_eq_some_iff] at e
        obtain ⟨_, ⟨q0, e0, rfl⟩, e2⟩ := e
        cases Option.some.inj e2
        obtain ⟨v, v1, v2⟩ := rv.get e0
        refine ⟨v, by rw [List.getElem?_map, v1]; rfl, ?_⟩
        rcases ho q0 (List.mem_of_getElem? e0) with ⟨d', rfl⟩ | rfl
        · exact v2
        · obtain ⟨x, x1, x2⟩ := v2
          exact ⟨a, rfl, by rw [x2, Option.some.inj (x1.symm.trans a1)]⟩
      · match l, e1, e2 with
        | 0, e1, e2 => exact Option.some.inj e1 ▸ Option.some.inj e2 ▸ S1.mem p a m a1 hm
      · exact List.mem_singleton.mp hc ▸ S1.there a (List.mem_of_getElem? a1)
    · obtain ⟨P2, S2⟩ := S1.after1 a1 P S'.sub (S'.mem 0 a m' rfl rfl)
      exact k _ _ _ _ (P1.trans P2) S2 rd
end
section
variable {P : Program} {w : World} {K : PySem.W.Frag} {mg : Str → Option Value} {base : Heap}
theorem fnM {x qual : Str} {st : Stmt} {f : Addr} {fd : FuncData} {N ps : List Str} {k n : Nat} {R : List Vl → Mc → D → Mc → Prop} (F : Fun K x qual st f fd) (S : FnScope N ps (defScope st)) (hp : ps.length = n)
    (hbody : ∀ (cdv : Value) (A : Around) (outer : List Env) (s : Shared) (H : Hp) (E : XK), Room k (A.deeper (envOfC qual (defScope st) s.heap.objs.size f cdv)) →
      ∃ t, PSs (cxOf CX0 P w K mg base N qual (defScope st) f cdv A outer s H E).nox (defBody st) t ∧
        ∀ args m d m', R args m d m' → args.length = n → Ends1 K t (args.map some ++ List.replicate (N.length - n) none) [m] d [m']) :
    FnOk P w K mg base CX0 (k + 1) f fd ps (spM K n R) := fn_ok F S hp fun cdv A outer s H E hr => by
  obtain ⟨t, ht, h⟩ := hbody cdv A outer s H E hr
  refine ⟨t, ht, fun args mem d mem' hR hn => ?_⟩
  obtain ⟨m, m', rfl, rfl, hR⟩ := hR
  exact h args m d m' hR hn
end
end DL
end
section
set_option Elab.async false
set_option linter.all false
set_option maxRecDepth 100000
/-! {k: v for ..} whose keys are tuples -/
namespace DL
open PySem PySem.Spec PyProof.Rows L2
section
variable {X : Cx}
/-- a store by the block itself, the key a tuple -/
theorem keep_tup {pins : List (Addr × Obj)} {σ : L2.St} {H : Hp} {s : Shared} {E : Value → Shared → Prop} {D b : Addr} {kvs : List (List L2.Key × V)} {k : List L2.Key} {v : V} {r : Value} {Q : Unit → Shared → Prop} (hu : X.A.units < cLine) (I : Inv X pins σ H s)
    (hD : H D = some (.dT kvs)) (hb : H b = some (.tup (k.map kV))) (fits : kvs.length < sizeLine) (rv : RelV v r) (h : ∀ s', Inv X pins σ (upd H D (.dT (putK kvs k v))) s' → Q () s') : wpAny (model X.prog X.w) X.A (dictSet D (.ref b) r) Q E s := by
  obtain ⟨-, low, xs, rel, dd⟩ := dt_of I.hok hD
  have few : xs.length ≤ sizeLine := Nat.le_of_lt (Paired.length rel ▸ fits)
  refine wpAny_dictSet_heap (hsz := few) hu (key_of I.hok hb) dd fun h' dd' but => h _ ?_
  obtain ⟨q, es, ep, there, ex, dat, ents, -, nd⟩ := dd'
  refine d_write (t' := s.toks + (tupleKind (mixKind X.prog X.w)).draws k) I (by rw [hD]; trivial) but ⟨q, there⟩
    ⟨Nat.le_trans (length_putK kvs k v) fits, low, _, (rel.put k hb rv).keeps fun c ys z => ?_, q, es, ep, there, ex, dat, ents, nd⟩
  exact (upd_ne (ne_of z hD fun e => nomatch e)).trans z
/-- what the block asks: a word W for the turns, the dict at a free place -/
def tDcT (wi : TI) (g : TG) (tt : TT) (tk tv : TE) (vs : List Nat) : TE := fun σ H Q => wi σ H fun J H1 => ∀ D, H1 D = none → ∃ W : Nat → Nat → Hp → Prop, (∃ m, W 0 m (upd H1 D (.dT []))) ∧
  ∀ i m H, W i m H → (J.stop i H ∧ Q (.ref D) H) ∨ (J.go i H ∧ ∃ Nx : Hp → Prop, (∀ H', Nx H' → ∃ m' < m, W (i + 1) m' H') ∧
    ∀ x H', J.yld i H x H' → g x (wipe σ vs) H' fun σ2 H2 => wipe σ2 vs = wipe σ vs ∧ tt σ2 H2 fun yes H3 =>
      if yes = true then tk σ2 H3 fun y H4 => tv σ2 H4 fun z H5 => ∃ kvs k b, y = .ref b ∧ H5 D = some (.dT kvs) ∧ H5 b = some (.tup (k.map kV)) ∧ kvs.length < sizeLine ∧ Nx (upd H5 D (.dT (putK kvs k z)))
      else Nx H3)
/-- the block, whatever is done with the dict behind it -/
theorem dcT_block {kx vx tg iter : Expr} {ifs : List Expr} {scope : Scope} {own : List (Str × Nat)} {pos : Pos} {wi : TI} {g : TG} {tt : TT} {tk tv : TE} {pos' : Pos} {use : Option (Value → Sem Unit)} {Qf : Value → Shared → Prop} {pins : List (Addr × Obj)} {s : Shared} {σ : L2.St} {H : Hp} {Q : VK}
    (hc : X.calm = true) (hN : X.N.Nodup) (hu : X.A.units < cLine) (hi : PI X tg iter wi) (ok : BlkOk X.N X.env.scope scope own)
    (inner : ∀ (s : Shared) (H : Hp) (C : Addr) (cl : List (Str × Addr)) (fp : List Addr), PG (X.blk s H scope (compEnvC scope cl C X.env) fp) tg g ∧ PTs (X.blk s H scope (compEnvC scope cl C X.env) fp) ifs tt ∧
      PE (X.blk s H scope (compEnvC scope cl C X.env) fp) kx tk ∧ PE (X.blk s H scope (compEnvC scope cl C X.env) fp) vx tv) (hs : ∀ x, foldedSetIterable iter X.env x = pure x) (I : Inv X pins σ H s) (want : tDcT wi g tt tk tv (own.map (·.2)) σ H Q)
    (hEnd : ∀ D C s' m H', Inv X pins σ H' s' → Q (.ref D) H' → s'.heap.Ns C m → FpOk X pins H' C → compPost (model X.prog X.w) X.A X.xe use Qf (.ref D) C (.ok .next) s') : wpAny (model X.prog X.w) X.A (comprehension (.DictComp kx vx [⟨tg, iter, ifs, 0⟩] scope pos) scope X.env pos' newDict false (eval iter X.env) use) Qf X.xe s := by
  have celled : ∀ y ∈ scope.names, y.2 = .free → ∃ c, X.env.cells.lookup y.1 = some c := fun y hy fr => (ok.free y hy fr).elim (fun z => I.ok.has _ (.inl z)) fun z => I.ok.has _ (.inr z)
  refine wpAny_comprehension_free (use := use) rfl hs (closure_ok celled) ok.kind (fun y hy lo => lo ▸ ok.uniq y hy) (thn (hi.run pins s σ H _ I want) fun _ sa came => thn came fun _ sb got => ?_)
  obtain ⟨it, ft, At, J, Hb, rfl, Ib, T, at0, free0, rest⟩ := got
  refine wpAny_newObj_type (newEnv_comp ?_)
  -- the dict, the block's own frame behind it
  have Ic : Inv X pins σ (upd Hb sb.heap.objs.size (.dT [])) { sb with heap := sb.heap.push { cls := .type "dict", data := .dict #[] } } :=
    Ib.laid (t' := sb.toks) (fun _ _ => Heap.get?_push_of_some _) (Nat.le_refl _) (dt_empty sb.heap Ib.big)
  have old : ∀ b ∈ ft, b < sb.heap.objs.size := fun b hb => let ⟨_, e, _⟩ := T.obj _ _ at0 b hb; Heap.lt_size e
  obtain ⟨W, ⟨m0, w0⟩, each⟩ := rest _ (Ib.hok.fresh (Nat.le_refl _))
  have free1 : ∀ b ∈ ft, FpOk X pins (upd Hb sb.heap.objs.size (.dT [])) b ∧ b < (sb.heap.push { cls := .type "dict", data := .dict #[] }).objs.size := fun b hb =>
    ⟨⟨(upd_ne (Nat.ne_of_lt (old b hb))).trans (free0 b hb).1, (free0 b hb).2⟩, by rw [Heap.size_push]; exact Nat.lt_succ_of_lt (old b hb)⟩
  have at1 : At 0 (sb.heap.push { cls := .type "dict", data := .dict #[] }) := T.keep _ _ _ at0 fun _ _ _ => Heap.get?_push_of_some _
  generalize sb.heap.objs.size = D at *
  generalize hc1 : ({ sb with heap := sb.heap.push { cls := .type "dict", data := .dict #[] } } : Shared) = sc at *
  have eh : sc.heap = sb.heap.push { cls := .type "dict", data := .dict #[] } := by rw [← hc1]
  rw [← eh] at free1 at1
  generalize upd Hb D (.dT []) = Hc at *
  have Id := block_start Ic ok hN free1
  have inr := inner sc Hc sc.heap.objs.size (cellsFrom (sc.heap.objs.size + 1) scope.names (cloFrom X.env.cells scope.names [])) ft
  change codeAny _ _ (.compStart _ 0 _ _ (compEnvC scope (cellsFrom (sc.heap.objs.size + 1) scope.names (cloFrom X.env.cells scope.names [])) sc.heap.objs.size X.env)) (compPost _ _ _ _ _ _ sc.heap.objs.size) _
  generalize hce : compEnvC scope (cellsFrom (sc.heap.objs.size + 1) scope.names (cloFrom X.env.cells scope.names [])) sc.heap.objs.size X.env = ce at Id inr ⊢
  have frame : ce.locals = sc.heap.objs.size := by subst hce; rfl
  have at2 : At 0 (pushCells (sc.heap.push { cls := .type "dict", data := .dict #[] }) scope.names) := T.keep _ _ _ at1 fun _ _ _ e => pushCells_keeps _ _ _ _ (Heap.get?_push_of_some _ e)
  have none1 : ∀ b ∈ ft, Hc b = none := fun b hb => (free1 b hb).1.1
  obtain ⟨pg, pt, pk, pv⟩ := inr
  -- the block's word
  have ours : ∀ {σ' : L2.St} {H' : Hp} {s' : Shared}, Inv (X.blk sc Hc scope ce ft) [] σ' H' s' → (∀ b ∈ ft, H' b = none) → ∀ b ∈ ft, FpOk (X.blk sc Hc scope ce ft) [] H' b := fun In nn b hb =>
    ⟨nn b hb, (In.ok.exf b hb).1, In.ok.exfs b hb, .inl hb, (In.ok.exf b hb).2, fun p hp => by cases hp⟩
  have loop : codeAny (model X.prog X.w) X.A (.compLoop (.DictComp kx vx [⟨tg, iter, ifs, 0⟩] scope pos) 0 (.ref it) (.ref D) ce) (compPost (model X.prog X.w) X.A X.xe use Qf (.ref D) sc.heap.objs.size)
      { sc with heap := pushCells (sc.heap.push { cls := .type "dict", data := .dict #[] }) scope.names } := by
    refine compLoop_anyD (fun n s' => ∃ i H', Inv (X.blk sc Hc scope ce ft) [] (wipe σ (own.map (·.2))) H' s' ∧ At i s'.heap ∧ (∀ b ∈ ft, H' b = none) ∧ W i n H') ?_ m0 ⟨0, Hc, Id, at2, none1, w0⟩
    rintro n sd ⟨i, He, Ie, ate, nonee, we⟩
    rcases each i n He we with ⟨stop, ready⟩ | ⟨go, Nx, next, turn⟩
    · refine thnF (T.done (X.blk sc Hc scope ce ft) rfl rfl rfl hc i [] sd _ He (fun _ _ => False) Ie (ours Ie nonee) ate stop) fun r sf ⟨hr, If⟩ => ?_
      subst hr
      have Ig : Inv X pins σ He sf := Ic.call' (ch := ft) If.os If.base If.hok If.bare fun b hb => let f := (free1 b hb).1; ⟨f.2.2.2.1, f.2.1, f.2.2.2.2.1, f.2.2.2.2.2⟩
      have noFrame : He sc.heap.objs.size = none := frame ▸ (show He ce.locals = none from If.free)
      obtain ⟨m, ns, -⟩ := If.loc
      exact hEnd D sc.heap.objs.size sf m He Ig ready (frame ▸ ns) (Ic.fpOk (Nat.le_refl _) noFrame)
    · refine thnF (T.item (X.blk sc Hc scope ce ft) rfl rfl rfl hc i [] sd _ He (fun _ _ => False) Ie (ours Ie nonee) ate go) fun r sf ⟨u, hr, more⟩ => ?_
      subst hr
      refine thnF more fun _ sg ⟨x, Hg, Ig, rx, yld, atg, noneg⟩ => ?_
      have Ip := Ig.pinned (ours Ig noneg) (T.obj _ _ atg)
      refine thnF (pg.run _ sg _ Hg x u _ Ip rx (turn x Hg yld)) fun _ sh ⟨σh, Hh, Ih, wiped, qh⟩ => ?_
      have again : ∀ {s' : Shared} {H' : Hp}, Inv (X.blk sc Hc scope ce ft) ([] ++ pinsAt ft sg.heap) σh H' s' → Nx H' → ∃ m < n, ∃ i H', Inv (X.blk sc Hc scope ce ft) [] (wipe σ (own.map (·.2))) H' s' ∧ At i s'.heap ∧ (∀ b ∈ ft, H' b = none) ∧ W i m H' := fun {s' H'} In nx => by
        obtain ⟨m', less, w'⟩ := next H' nx
        have still : ∀ b ∈ ft, ∀ o, sg.heap.get? b = some o → s'.heap.get? b = some o ∧ H' b = none := fun b hb o e =>
          let z := In.pin (b, o) (List.mem_append_right _ (List.mem_append_right _ (mem_pinsAt hb e))); ⟨z.1, z.2.1⟩
        refine ⟨m', less, i + 1, H', (In.unpinned (pins := [])).weak (by rw [← wiped, wipe_length]) (fun j v e => (wipe_some (wiped ▸ e)).1), T.keep _ _ _ atg fun b hb o e => (still b hb o e).1, fun b hb => ?_, w'⟩
        obtain ⟨o, e, -⟩ := T.obj _ _ atg b hb
        exact (still b hb o e).2
      refine thnF (pt.run _ sh σh Hh _ Ih qh) fun yes si ⟨Hi, Ii, qi⟩ => ?_
      cases yes with
      | false => exact again Ii (by simpa using qi)
      | true =>
        refine thnF (pk.run _ si σh Hi _ Ii (by simpa using qi)) fun kv sj got => ?_
        obtain ⟨yk, Hj, Ij, rk, qj⟩ := got
        refine thnF (pv.run _ sj σh Hj _ Ij qj) fun vv sk ⟨yv, Hk, Ik, rv, kvs, k, b, ek, hD, hb, fits, nx⟩ => ?_
        subst ek
        cases rk
        exact keep_tup (X := X.blk sc Hc scope ce ft) hu Ik hD hb fits rv fun sl Il => again Il nx
  exact codeAny_compStart_dict loop (T.self X.A 0 _ _ _ at2 loop)
theorem pe_dcT {kx vx tg iter : Expr} {ifs : List Expr} {scope : Scope} {own : List (Str × Nat)} {pos : Pos} {wi : TI} {g : TG} {tt : TT} {tk tv : TE} (hc : X.calm = true) (hN : X.N.Nodup) (hu : X.A.units < cLine) (hi : PI X tg iter wi) (ok : BlkOk X.N X.env.scope scope own)
    (inner : ∀ (s : Shared) (H : Hp) (C : Addr) (cl : List (Str × Addr)) (fp : List Addr), PG (X.blk s H scope (compEnvC scope cl C X.env) fp) tg g ∧ PTs (X.blk s H scope (compEnvC scope cl C X.env) fp) ifs tt ∧
      PE (X.blk s H scope (compEnvC scope cl C X.env) fp) kx tk ∧ PE (X.blk s H scope (compEnvC scope cl C X.env) fp) vx tv) (hs : ∀ x, foldedSetIterable iter X.env x = pure x := by intro _; rfl) :
    PE X (.DictComp kx vx [⟨tg, iter, ifs, 0⟩] scope pos) (tDcT wi g tt tk tv (own.map (·.2))) := ⟨fun pins s σ H Q I want => by
  rw [arm_eval_DictComp]
  refine dcT_block (use := none) hc hN hu hi ok inner hs I want fun D C s' m H' I' q ns f => ⟨m, ns, fun h'' but => ?_⟩
  exact ⟨.ref D, H', I'.turned (t' := s'.toks) (fun b o nb e => (but.2 b nb).trans e) f.1 f.2.1 f.2.2.2.1 f.2.2.2.2.1 f.2.2.2.2.2, rfl, q⟩⟩
/-- x = {..} on one line, x a local name: stored ahead of the block's end -/
theorem ps_setDcT {i : Nat} {y : Str} {py spos : Pos} {kx vx tg iter : Expr} {ifs : List Expr} {scope : Scope} {own : List (Str × Nat)} {pos : Pos} {wi : TI} {g : TG} {tt : TT} {tk tv : TE} (hy : X.N[i]? = some y) (hyl : X.env.scope.names.lookup y = some .local) (hsw : swapsWith (.DictComp kx vx [⟨tg, iter, ifs, 0⟩] scope pos) (some (.Name y py)) spos.line X.env = pure true)
    (hc : X.calm = true) (hN : X.N.Nodup) (hu : X.A.units < cLine) (hi : PI X tg iter wi) (ok : BlkOk X.N X.env.scope scope own)
    (inner : ∀ (s : Shared) (H : Hp) (C : Addr) (cl : List (Str × Addr)) (fp : List Addr), PG (X.blk s H scope (compEnvC scope cl C X.env) fp) tg g ∧ PTs (X.blk s H scope (compEnvC scope cl C X.env) fp) ifs tt ∧
      PE (X.blk s H scope (compEnvC scope cl C X.env) fp) kx tk ∧ PE (X.blk s H scope (compEnvC scope cl C X.env) fp) vx tv) (hs : ∀ x, foldedSetIterable iter X.env x = pure x := by intro _; rfl) :
    PS X (.Assign [.Name y py] (.DictComp kx vx [⟨tg, iter, ifs, 0⟩] scope pos) spos) (tAsg (tDcT wi g tt tk tv (own.map (·.2))) (gName i)) := ⟨fun pins s σ H E I want => by
  rw [exec_Assign_Name_used _ _ _ _ hsw]
  refine wpAny_bind (wpAny_standAt (wpAny_bind ?_))
  show wpAny _ X.A (comprehension (.DictComp kx vx [⟨tg, iter, ifs, 0⟩] scope pos) scope X.env (firstIterPos [⟨tg, iter, ifs, 0⟩] pos) newDict false (eval iter X.env) (some (assign (.Name y py) X.env)) >>= _) _ _ s
  have want' : tDcT wi g tt tk tv (own.map (·.2)) σ H (fun x H1 => gName i x σ H1 E.nx) := want
  refine wpAny_bind (thn (dcT_block (Qf := fun _ s' => SP X pins E .next s') hc hN hu hi ok inner hs I want' fun D C s' m H' I' q ns f => ?_) fun _ s' z => wpAny_pure (wpAny_pure z))
  show wpAny _ _ (assign (.Name y py) X.env (.ref D)) _ _ _
  refine wpAny_assign_Name (store_ok2 (v := V.ref D) I' hN hy (.inl hyl) rfl (fun s2 I2 kept => ?_) (.inr hyl))
  obtain ⟨a, but, at_⟩ := kept
  have apart : C ≠ a := fun e => at_.elim (fun z => f.2.1 (e.trans z)) fun z => f.2.2.2.2.1 y a z e.symm
  exact ⟨m, ns.sameBut but apart, fun h3 but3 => ⟨_, H', I2.turned (t' := s2.toks) (fun b o nb e => (but3.2 b nb).trans e) f.1 f.2.1 f.2.2.2.1 f.2.2.2.2.1 f.2.2.2.2.2, q⟩⟩⟩
theorem swD_true {kx vx : Expr} {gs : List Comprehension} {scope : Scope} {pos py : Pos} {y : Str} {l : Nat} {env : Env} (fn : env.scope.kind = .function) (hy : env.scope.names.lookup y = some .local) (hl : (py.line == pos.line) = true)
    (no : (scope.names.any fun (n, k) => n == y && (k == .local || k == .cell)) = false) : swapsWith (.DictComp kx vx gs scope pos) (some (.Name y py)) l env = pure true := by
  have k1 : env.blockKind = .function := by simp [Env.blockKind, fn]
  have k2 : env.kindOf y = some .local := hy
  simp only [swapsWith, k1, k2, Expr.pos, hl, no]
  rfl
end
end DL
end
section
set_option Elab.async false
set_option linter.all false
set_option maxRecDepth 100000
/-! dict comprehensions, said of data -/
namespace DL
open PySem PySem.Spec PyProof.Rows L2
/-- an object that stands beside the situation -/
structure Beside (B H : Hp) (al : List Addr) (p : Addr) (o : HO) : Prop where
  at_ : H p = some o
  nb : B p = none
  nal : p ∉ al
section
variable {K : PySem.W.Frag} {ss ss1 ss2 : Sl} {mem m1 m2 m3 m4 : List Mc} {ta tb tc te tk tv : TE} {i j : Int} {d e : D} {r r' : Vl} {t u : TS} {out : Out}
theorem Beside.step {B H B' H' : Hp} {al al' : List Addr} {p : Addr} {o : HO} (s : Beside B H al p o) (nt : ∀ xs, o ≠ .tup xs) (P : Stp B H al B' H' al') : Beside B' H' al' p o where
  at_ := P.frame _ _ s.at_ s.nal
  nb := Decidable.byContradiction fun z => by
    rcases P.fresh p z with y | y | y | ⟨xs, y⟩
    · exact y s.nb
    · rw [s.at_] at y
      cases y
    · exact s.nal y
    · rw [s.at_] at y
      exact nt xs (Option.some.inj y)
  nal z := by
    obtain ⟨ex, q, hx⟩ := P.ext
    rw [q] at z
    refine (List.mem_append.mp z).elim s.nal fun y => ?_
    have := hx p y
    rw [s.at_] at this
    cases this
theorem McOk.frame {B H H' : Hp} {a : Addr} {m : Mc} (e : H' a = H a) (h : McOk K B H a m) : McOk K B H' a m := by
  cases m <;> simp only [McOk, e] at h ⊢ <;> exact h
theorem McOk.grow {B B' H : Hp} {a : Addr} {m : Mc} (sm : Same B B') (e : B' a = B a) (h : McOk K B H a m) : McOk K B' H a m := by
  cases m with
  | gone => trivial
  | lst ds => exact ⟨e.trans h.1, h.2.imp fun xs z => ⟨z.1, RepAll.mono sm ds z.2⟩⟩
  | obj C fs =>
    obtain ⟨h0, dx, fv, h3, h4⟩ := h
    exact ⟨e.trans h0, dx, fv, h3, RepFs.mono sm fs h4⟩
  | dic ds => exact ⟨e.trans h.1, h.2.imp fun xs z => ⟨z.1, RepKv.mono sm ds z.2⟩⟩
theorem Sit.beside {B H : Hp} {al : List Addr} {σ : L2.St} {p : Addr} (S : Sit K B H al σ ss mem) (nb : B p = none) (nal : p ∉ al) (o : HO) : Sit K B (upd H p o) al σ ss mem :=
  have na : ∀ a ∈ al, a ≠ p := fun a h z => nal (z ▸ h)
  ⟨fun b u e => (upd_ne (ne_of_none e nb)).trans (S.sub b u e), S.len, S.slot, S.mlen, fun n a m h1 h2 => (S.mem n a m h1 h2).frame (upd_ne (na a (List.mem_of_getElem? h1))), S.nd, fun a h => by
    rw [upd_ne (na a h)]
    exact S.there a h⟩
/-- it becomes data -/
theorem Sit.besideData {B0 H0 B H : Hp} {al0 al : List Addr} {σ : L2.St} {p : Addr} {o : HO} (S : Sit K B H al σ ss mem) (P : Stp B0 H0 al0 B H al) (s : Beside B H al p o) (np : H0 p = none) :
    Stp B0 H0 al0 (upd B p o) H al ∧ Sit K (upd B p o) H al σ ss mem ∧ Same B (upd B p o) := by
  have sB : Same B (upd B p o) := fun b u e => by rw [upd_ne (ne_of_none e s.nb)]; exact e
  refine ⟨⟨P.same.trans sB, P.frame, fun b h => ?_, P.stay, P.ext⟩, ⟨fun b u e => ?_, S.len, fun i r e => ?_, S.mlen, fun n a m h1 h2 => ?_, S.nd, S.there⟩, sB⟩
  · by_cases z : b = p
    · exact .inr (.inl (z ▸ np))
    · exact P.fresh b (by rw [upd_ne z] at h; exact h)
  · by_cases z : b = p
    · subst z
      rw [upd_same] at e
      exact s.at_.trans e
    · exact S.sub b u (by rw [upd_ne z] at e; exact e)
  · obtain ⟨v, h1, h2⟩ := S.slot i r e
    refine ⟨v, h1, ?_⟩
    cases r with
    | dat d => exact Rep.mono sB d h2
    | own n => exact h2
    | tl ds => exact h2.imp fun a z => z.imp fun xs y => ⟨y.1, sB _ _ y.2.1, RepAll.mono sB ds y.2.2⟩
    | lk ds =>
      obtain ⟨a, o', kvs, z1, z2, z3⟩ := h2
      exact ⟨a, o', kvs, z1, sB _ _ z2, RepKv.mono sB ds z3⟩
  · exact (S.mem n a m h1 h2).grow sB (upd_ne fun z => s.nal (z ▸ List.mem_of_getElem? h1))
/-- one turn of a dict comprehension -/
def DcTurn (K : PySem.W.Frag) (g : TG) (tt : TT) (tk tv : TE) (vs : List Nat) (s0 : Sl) (d : D) (acc : List (List Int × D)) (m : List Mc) (acc' : List (List Int × D)) (m' : List Mc) : Prop :=
  ∃ s1 ws, DG K g (wipeS s0 vs) d s1 ws ∧ (∀ w ∈ ws, w ∈ vs) ∧ ((∃ ma mb k x, DB K tt s1 m true ma ∧ DT K tk s1 ma (.dat (rowD k)) mb ∧ DT K tv s1 mb (.dat x) m' ∧ acc' = putI acc k x) ∨ (DB K tt s1 m false m' ∧ acc' = acc))
/-- {k: v for ..}, as data -/
theorem dt_dc {wi : TI} {g : TG} {tt : TT} {vs : List Nat} {n : Nat} {it : Nat → D} (hi : DI K wi ss mem n it m1) (acc : Nat → List (List Int × D)) (m : Nat → List Mc) (a0 : acc 0 = []) (m0 : m 0 = m1) (hlen : ∀ i, i < n → (acc i).length < 16777216)
    (step : ∀ i, i < n → DcTurn K g tt tk tv vs ss (it i) (acc i) (m i) (acc (i + 1)) (m (i + 1))) : DT K (tDcT wi g tt tk tv vs) ss mem (.dat (.dic (acc n))) (m n) := fun B H al σ Q S fin =>
  hi B H al σ _ S fun B1 H1 al1 J P1 S1 wk p np => by
    have nb : B1 p = none := S1.sub.free np
    have nal : p ∉ al1 := fun h => S1.there p h np
    refine ⟨fun i k H' => k = n - i ∧ i ≤ n ∧ ∃ B' al' kvs, Stp B1 H1 al1 B' H' al' ∧ Sit K B' H' al' σ ss (m i) ∧ Beside B' H' al' p (.dT kvs) ∧ RepKv K B' kvs (acc i),
      ⟨n, by omega, Nat.zero_le _, B1, al1, [], (Stp.refl _ _ _).poke np, m0 ▸ S1.beside nb nal _, ⟨upd_same, nb, nal⟩, a0 ▸ .nil⟩, ?_⟩
    rintro i _ H' ⟨rfl, le, B', al', kvs, P', S', side, ra⟩
    obtain ⟨w1, w2⟩ := wk B' H' al' (wipe σ vs) _ _ P'.same (S'.wipe vs)
    by_cases lt : i < n
    · obtain ⟨go, yl⟩ := w1 i lt
      obtain ⟨s1, ws, dg, hws, turn⟩ := step i lt
      refine .inr ⟨go, fun H2 => ∃ B' al' kvs, Stp B1 H1 al1 B' H2 al' ∧ Sit K B' H2 al' σ ss (m (i + 1)) ∧ Beside B' H2 al' p (.dT kvs) ∧ RepKv K B' kvs (acc (i + 1)), fun H2 w => ⟨n - (i + 1), by omega, rfl, lt, w⟩, fun x H2 y => ?_⟩
      obtain ⟨B2, P2, S2, r2⟩ := yl x H2 y
      refine dg B2 H2 al' _ _ x _ S2 r2 fun σ3 S3 hwp => ⟨?_, ?_⟩
      · rw [hwp vs hws]
        refine List.ext_getElem? fun j => ?_
        by_cases hj : j ∈ vs
        · rw [wipe_in hj, wipe_in hj, wipe_length]
        · rw [wipe_out hj]
      · have nt : ∀ xs, HO.dT kvs ≠ .tup xs := fun _ z => nomatch z
        rcases turn with ⟨ma, mb, k, x, db, dk, dv, ea⟩ | ⟨db, ea⟩
        · refine db B2 H2 al' σ3 _ S3 fun B4 H4 al4 P4 S4 => iteT (dk B4 H4 al4 σ3 _ S4 fun B5 H5 al5 kv P5 S5 r5 => dv B5 H5 al5 σ3 _ S5 fun B6 H6 al6 v P6 S6 r6 => ?_)
          have PP := ((P2.trans P4).trans P5).trans P6
          have sd := side.step nt PP
          obtain ⟨b, rfl, kb⟩ := rep_key r5
          have kb6 := S6.sub _ _ (P6.same _ _ kb)
          refine ⟨kvs, ik k, b, rfl, sd.at_, kb6, by rw [ra.len, sizeLine_eq]; exact hlen i lt, B6, al6, _, (P'.trans PP).poke np, (S'.back PP S6).beside sd.nb sd.nal _, ⟨upd_same, sd.nb, sd.nal⟩, ?_⟩
          rw [ea]
          exact (RepKv.mono PP.same _ ra).put r6
        · refine db B2 H2 al' σ3 _ S3 fun B4 H4 al4 P4 S4 => iteF ?_
          have PP := P2.trans P4
          exact ⟨B4, al4, kvs, P'.trans PP, S'.back PP S4, side.step nt PP, ea ▸ RepKv.mono PP.same _ ra⟩
    · have ei : i = n := by omega
      subst ei
      obtain ⟨P2, S2, sB⟩ := S'.besideData P' side np
      exact .inl ⟨w2 _ (Nat.le_refl _), fin _ _ _ _ (P1.trans P2) S2 (.dic (.inl upd_same) (RepKv.mono sB _ ra))⟩
/-- no test, nothing else touched, the keys apart -/
theorem dt_dcMap {wi : TI} {g : TG} {vs : List Nat} {n : Nat} {it : Nat → D} (hi : DI K wi ss mem n it m1) (key : Nat → List Int) (val : Nat → D) (acc : Nat → List (List Int × D)) (a0 : acc 0 = []) (as : ∀ i, i < n → acc (i + 1) = putI (acc i) (key i) (val i)) (hn : n ≤ 16777216)
    (step : ∀ i, i < n → ∃ s1 ws, DG K g (wipeS ss vs) (it i) s1 ws ∧ (∀ w ∈ ws, w ∈ vs) ∧ DT K tk s1 m1 (.dat (rowD (key i))) m1 ∧ DT K tv s1 m1 (.dat (val i)) m1) : DT K (tDcT wi g tYes tk tv vs) ss mem (.dat (.dic (acc n))) m1 := by
  have putLe : ∀ (q : List (List Int × D)) k x, (putI q k x).length ≤ q.length + 1 := fun q k x => by
    unfold putI
    split <;> simp
  have len : ∀ i, i ≤ n → (acc i).length ≤ i := fun i => by
    induction i with
    | zero => intro; rw [a0]; exact Nat.le_refl _
    | succ i ih =>
      intro h
      rw [as i h]
      exact Nat.le_trans (putLe _ _ _) (Nat.succ_le_succ (ih (Nat.le_of_succ_le h)))
  exact dt_dc (tt := tYes) hi acc (fun _ => m1) a0 rfl (fun i h => by have := len i (Nat.le_of_lt h); omega) fun i h => by
    obtain ⟨s1, ws, a, b, c, dd⟩ := step i h
    exact ⟨s1, ws, a, b, .inl ⟨m1, m1, key i, val i, db_yes, c, dd, as i h⟩⟩
end
end DL
end
section
set_option Elab.async false
set_option linter.all false
set_option maxRecDepth 100000
/-! dicts with tuple keys: pop(k), dict(pairs) -/
namespace DL
open PySem PySem.Spec PyProof.Rows L2
section
variable {X : Cx}
def rPop1T : V → List V → Hp → VK → Prop := fun x xs H Q => ∃ (a : Addr) (kvs : List (List L2.Key × V)) (k : List L2.Key) (b : Addr) (v : V), x = .ref a ∧ xs = [.ref b] ∧ H a = some (.dT kvs) ∧ H b = some (.tup (k.map kV)) ∧ valV kvs k = some v ∧ Q v (upd H a (.dT (dropK kvs k)))
theorem mt_pop1T (hu : X.A.units + 1 < cLine) : MtR X "dict.pop" rPop1T := by
  rintro pins s σ H x xs0 v0 us Q I rx rel ⟨a, kvs, k, b, v, rfl, rfl, inD, key, val, fin⟩
  obtain ⟨_, rfl, rk⟩ := rel.one
  cases rk
  cases rx
  obtain ⟨z, low, xs, kt, dd⟩ := dt_of I.hok inD
  obtain ⟨u, eu, ru⟩ := RelO.some_of (v := v) (o := (atKey xs k).map (·.2)) (by rw [← val]; exact kt.val k)
  obtain ⟨p, hp, rfl⟩ := Option.map_eq_some_iff.mp eu
  refine call_pop_heap (more := []) (.inl rfl) (PySem.F.args_dict_pop_2 _ _) (tupleKind_room_in1 hu) (key_of I.hok key) low dd hp (fun h' d' but => ?_) (Paired.length kt ▸ z)
  obtain ⟨q, es, ep, at0, ex, dat, ents, -, nd⟩ := d'
  have obj : ObjOk X.prog X.w (upd H a (.dT (dropK kvs k))) h' a (.dT (dropK kvs k)) :=
    ⟨Nat.le_trans (dropK_le kvs k) z, low, _, (L2.DX.KT_drop k kt).keeps fun c ys y => (upd_ne (ne_of y inD fun e => nomatch e)).trans y, q, es, ep, at0, ex, dat, ents, nd⟩
  exact ⟨v, _, d_write (t' := _) I (by rw [inD]; trivial) but ⟨q, at0⟩ obj, ru, fin⟩
/-- one after the other, a later one in an earlier one's place -/
def putAll (acc kvs : List (List L2.Key × V)) : List (List L2.Key × V) := kvs.foldl (fun c p => putK c p.1 p.2) acc
theorem putAll_len : ∀ (kvs acc : List (List L2.Key × V)), (putAll acc kvs).length ≤ acc.length + kvs.length
  | [], acc => Nat.le_refl _
  | p :: kvs, acc => by
    have h := putAll_len kvs (putK acc p.1 p.2)
    have g := length_putK acc p.1 p.2
    show (putAll (putK acc p.1 p.2) kvs).length ≤ acc.length + (kvs.length + 1)
    omega
theorem KT.putAll {H : Hp} : ∀ {kvs : List (List L2.Key × V)} {xs : List (List L2.Key × Addr × Value)}, KT H kvs xs → ∀ {acc : List (List L2.Key × V)} {ys : List (List L2.Key × Addr × Value)}, KT H acc ys → KT H (DL.putAll acc kvs) (storedAllH ys xs)
  | [], _, r, acc, ys, g => by cases r; exact g
  | p :: kvs, _, r, acc, ys, g => by
    cases r with
    | @cons _ x _ xs h t =>
      obtain ⟨k, v⟩ := p
      obtain ⟨k', b, u⟩ := x
      obtain ⟨e, hb, ru⟩ := h
      cases e
      exact KT.putAll t (L2.KT.put g k hb ru)
def rDictPrT (K : PySem.W.Frag) : List V → Hp → VK → Prop := fun xs H Q => ∃ (l : Addr) (ps : List Addr) (bs : List Addr) (kvs : List (List L2.Key × V)), xs = [.ref l] ∧ SqL K H l (ps.map V.ref) ∧ ps.length = kvs.length ∧ bs.length = kvs.length ∧
  (∀ (j : Nat) p b k v, ps[j]? = some p → bs[j]? = some b → kvs[j]? = some (k, v) → H p = some (.tup [.ref b, v]) ∧ H b = some (.tup (k.map kV))) ∧ ∀ q, H q = none → Q (.ref q) (upd H q (.dT (putAll [] kvs)))
/-- the pairs as the heap holds them -/
theorem pairsOf {P : Program} {w : World} {H : Hp} {h : Heap} (ok : HOk P w H h) : ∀ (kvs : List (List L2.Key × V)) (ps bs : List Addr), ps.length = kvs.length → bs.length = kvs.length →
    (∀ (j : Nat) p b k v, ps[j]? = some p → bs[j]? = some b → kvs[j]? = some (k, v) → H p = some (.tup [.ref b, v]) ∧ H b = some (.tup (k.map kV))) →
    ∃ xs : List (List L2.Key × Addr × Value), KT H kvs xs ∧ ∀ (j : Nat) x, xs[j]? = some x → ∃ p, ps[j]? = some p ∧ IsTup h p #[.ref x.2.1, x.2.2]
  | [], _, _, _, _, _ => ⟨[], .nil, fun j x e => by simp at e⟩
  | (k, v) :: kvs, [], _, l1, _, _ => by simp at l1
  | (k, v) :: kvs, p :: ps, [], _, l2, _ => by simp at l2
  | (k, v) :: kvs, p :: ps, b :: bs, l1, l2, a => by
    obtain ⟨xs, kt, at_⟩ := pairsOf ok kvs ps bs (Nat.succ.inj l1) (Nat.succ.inj l2) fun j p b k v e1 e2 e3 => a (j + 1) p b k v (by simpa using e1) (by simpa using e2) (by simpa using e3)
    obtain ⟨hp, hb⟩ := a 0 p b k v rfl rfl rfl
    obtain ⟨_, its, rel, tup⟩ := (show ObjOk P w H h p (.tup [.ref b, v]) from ok p _ hp)
    obtain ⟨u1, u, rfl, r1, r2⟩ := vals2 rel
    cases r1
    refine ⟨(k, b, u) :: xs, .cons ⟨rfl, hb, r2⟩ kt, fun j x e => ?_⟩
    cases j with
    | zero => exact ⟨p, rfl, Option.some.inj e ▸ tup⟩
    | succ j =>
      obtain ⟨p', e1, e2⟩ := at_ j x (by simpa using e)
      exact ⟨p', by simpa using e1, e2⟩
theorem KT.keysEq {H : Hp} {kvs : List (List L2.Key × V)} {xs : List (List L2.Key × Addr × Value)} (r : KT H kvs xs) : kvs.map (·.1) = xs.map (·.1) := by
  induction r with
  | nil => rfl
  | cons h t ih => rw [List.map_cons, List.map_cons, ih, h.1]
theorem KT.key {H : Hp} {kvs : List (List L2.Key × V)} {xs : List (List L2.Key × Addr × Value)} (r : KT H kvs xs) : ∀ x ∈ xs, H x.2.1 = some (.tup (x.1.map kV)) := by
  induction r with
  | nil => exact fun _ z => nomatch z
  | cons h t ih =>
    intro x hx
    rcases List.mem_cons.mp hx with z | z
    · rw [z, ← h.1]
      exact h.2.1
    · exact ih x z
theorem call_dictPrT (hc : X.calm = true) (hu : X.A.units + 2 < cLine) : CallR X (.type "dict") (rDictPrT X.K) := by
  rintro pins s σ H _ us Q I rel ⟨l, ps, bs, kvs, rfl, sq, lp, lb, prs, fin⟩
  obtain ⟨_, rfl, ru⟩ := rel.one
  cases ru
  obtain ⟨its, ri, plain, zl⟩ := I.list sq
  obtain ⟨xs, kt, at_⟩ := pairsOf I.hok kvs ps bs lp lb prs
  have few : kvs.length ≤ sizeLine := by rw [List.length_map, lp] at zl; exact zl
  have lx : xs.length = kvs.length := (Paired.length kt).symm
  have items : PairItems s.heap its.toArray (fun j => ps.getD j 0) (xs.map fun x => (Value.ref x.2.1, x.2.2)) := by
    refine ⟨by rw [List.size_toArray, ← ri.length, List.length_map, List.length_map, lp, lx], fun j k v e => ?_⟩
    simp only [List.getElem?_map, Option.map_eq_some_iff] at e
    obtain ⟨x, e1, e2⟩ := e
    obtain ⟨p, p1, p2⟩ := at_ j x e1
    obtain ⟨u, q1, q2⟩ := ri.get (i := j) (x := V.ref p) (by rw [List.getElem?_map, p1]; rfl)
    cases q2
    cases e2
    have ep : ps.getD j 0 = p := by rw [List.getD_eq_getElem?_getD, p1]; rfl
    show its.toArray[j]? = some (Value.ref (ps.getD j 0)) ∧ PairAt s.heap (ps.getD j 0) _ _
    rw [ep]
    exact ⟨by simpa using q1, .inl p2⟩
  have plain' : PlainSeq "list" s.heap l its.toArray := by
    obtain ⟨o, n, e, c, d, z⟩ := plain
    exact ⟨o, n, e, c, d, z⟩
  refine call_dict_pairsH (knd := tupleKind (mixKind X.prog X.w)) (ps := xs) (PairArg.list l its.toArray _ _) (I.ok.hd hc) hu ⟨plain', items⟩
    ⟨by rw [List.length_map], fun i key v e => ?_⟩ (fun h' kp x hx => ?_) (by rw [List.length_map, lx]; exact few) fun h' tk made kp => ?_
  · obtain ⟨x, e1, e2⟩ := Option.map_eq_some_iff.mp ((List.getElem?_map ..).symm.trans e)
    cases e2
    exact ⟨x.1, x.2.1, e1, rfl⟩
  · exact key_of (I.hok.kept fun b u e => kp b u (Nat.ne_of_lt (Heap.lt_size e)) (fun z => nomatch z) e) (KT.key kt x hx)
  · have all_in := KT.putAll kt (acc := []) (ys := []) .nil
    have small := putAll_len kvs []
    rw [List.length_nil, Nat.zero_add] at small
    obtain ⟨q, es, ep, at0, ex, dat, ents, -, nd'⟩ := made
    have all : ∀ b o, s.heap.get? b = some o → h'.get? b = some o := fun b o e => kp b o (fun z => nomatch z) e
    have obj : ObjOk X.prog X.w (upd H s.heap.objs.size (.dT (putAll [] kvs))) h' s.heap.objs.size (.dT (putAll [] kvs)) :=
      ⟨Nat.le_trans small few, beq_eq_false_iff_ne.mpr (Nat.ne_of_gt I.big), _, KT.keeps all_in fun c ys y => (upd_ne (ne_of_none y (I.hok.fresh (Nat.le_refl _)))).trans y, q, es, ep, at0, ex, dat, ents, nd'⟩
    exact ⟨.ref s.heap.objs.size, _, I.laid (t' := tk) all (Nat.le_refl _) obj, rfl, fin _ (I.hok.fresh (Nat.le_refl _))⟩
end
end DL
end
section
set_option Elab.async false
set_option linter.all false
set_option maxRecDepth 100000
/-! dict(d), d a dict with tuple keys whose hashes stand apart -/
namespace DL
open PySem PySem.Spec PyProof.Rows L2
def rDictDT (P : Program) (w : World) : List V → Hp → VK → Prop := fun xs H Q => ∃ (a : Addr) (kvs : List (List L2.Key × V)), xs = [V.ref a] ∧ Rd H a (.dT kvs) ∧ (kvs.map fun p => tupleKeyHash (mixKind P w) p.1).Nodup ∧ ∀ q, H q = none → Q (.ref q) (upd H q (.dT kvs))
theorem call_dictDT {X : Cx} (hu : X.A.units + 2 < cLine) : CallR X (.type "dict") (rDictDT X.prog X.w) := by
  rintro pins s σ H _ us Q I rel ⟨a, kvs, rfl, rd, apart, fin⟩
  obtain ⟨_, rfl, ru⟩ := rel.one
  cases ru
  obtain ⟨few, low, xs, kt, dd⟩ := dt_rd I.hok rd
  have lx : xs.length = kvs.length := (Paired.length kt).symm
  have grow : ∀ b o, s.heap.get? b = some o → (s.heap.push { cls := .type "dict", data := .dict #[] }).get? b = some o := fun b o => Heap.get?_push_of_some _
  have stay : ∀ h', (∀ b o, s.heap.get? b = some o → h'.get? b = some o) → ∀ x ∈ xs, (tupleKind (mixKind X.prog X.w)).is h' x.1 x.2.1 := fun h' k x hx => key_of (I.hok.kept k) (KT.key kt x hx)
  have here : s.heap.objs.size ≠ a := fun e => Nat.lt_irrefl _ (e ▸ dd.lt_size)
  have src := dd.at' (grow a) (stay _ grow)
  have new := Heap.DictOfH.new (knd := tupleKind (mixKind X.prog X.w)) s.heap
  have tups : ∀ x ∈ xs, Shared.TypeIs { s with heap := s.heap.push { cls := .type "dict", data := .dict #[] } } (.ref x.2.1) "tuple" := fun x hx => by
    obtain ⟨o, _, _, e, c, _⟩ := stay _ grow x hx
    exact ⟨o, e, c⟩
  have hashes : (xs.map fun x => (tupleKind (mixKind X.prog X.w)).hash x.1).Nodup := by
    have e : (xs.map fun x => (tupleKind (mixKind X.prog X.w)).hash x.1) = (kvs.map (·.1)).map (tupleKeyHash (mixKind X.prog X.w)) := by
      rw [KT.keysEq kt, List.map_map]
      rfl
    rw [e, List.map_map]
    exact apart
  refine callType_codes F.kt_called_dict (F.kt_typeCall_dict_1 _) F.entry_dict_init (kt_code_dict_new (Q₁ := fun v t => v = .ref s.heap.objs.size ∧ t = { s with heap := s.heap.push { cls := .type "dict", data := .dict #[] } }) _ ⟨rfl, rfl⟩) ?_
  rintro _ _ ⟨rfl, rfl⟩
  refine ⟨new.typeIs, F.args_dict_init_2 _ _, ?_⟩
  unfold Builtin.«dict.__init__» Builtin.Dict.selfAndRest
  refine wpAny_bind (wpAny_bind (wpAny_notOrdered_dict new.typeIs (wpAny_pure ?_)))
  refine updateFrom_dictH (A := X.A.in1) (knd := tupleKind (mixKind X.prog X.w)) (kvs := []) .none hu here low new src (.inr ⟨tups, hashes⟩) (by rw [lx]; simpa using few) fun h' made _ but => ?_
  rw [storedAllH_nil_of_nodup xs dd.nodup] at made
  have all : ∀ b o, s.heap.get? b = some o → h'.get? b = some o := fun b o e => (but.2 b (Nat.ne_of_lt (Heap.lt_size e))).trans (grow b o e)
  obtain ⟨q, es, ep, at0, ex, dat, ents, -, nd⟩ := made
  have obj : ObjOk X.prog X.w (upd H s.heap.objs.size (.dT kvs)) h' s.heap.objs.size (.dT kvs) :=
    ⟨few, beq_eq_false_iff_ne.mpr (Nat.ne_of_gt I.big), xs, KT.keeps kt fun c ys y => (upd_ne (ne_of_none y (I.hok.fresh (Nat.le_refl _)))).trans y, q, es, ep, at0, ex, dat, ents, nd⟩
  exact ⟨rfl, .ref s.heap.objs.size, _, I.laid (t' := s.toks) all (Nat.le_refl _) obj, rfl, fin _ (I.hok.fresh (Nat.le_refl _))⟩
end DL
end
section
set_option Elab.async false
set_option linter.all false
set_option maxRecDepth 100000
/-! None in d, d a dict with tuple keys none of which has None's hash; which hashes stand apart -/
namespace DL
open PySem PySem.Spec PyProof.Rows L2
section
variable {P : Program} {w : World} {A : Around} {E : Value → Shared → Prop} {s : Shared}
/-- nothing is found where no hash is the wanted one -/
theorem find_noHash {d : Addr} {o : Obj} {es : Array DictEntry} {ep : Nat} {h : Int} {Q : Option Nat → Shared → Prop} (ho : s.heap.get? d = some o) (hd : o.data = .dict es ep) (no : ∀ e ∈ es.toList, e.hash ≠ h) (fin : Q none s) :
    wpAny (model P w) A (dictFind d .none h) Q E s := by
  have empty : placesWithHash es.size (fun i => es[i]?.map (·.hash)) h = [] := by
    unfold placesWithHash
    rw [List.filter_eq_nil_iff]
    intro i hi z
    rw [List.mem_range] at hi
    dsimp only at z
    rw [Array.getElem?_eq_getElem hi] at z
    exact no es[i] (Array.mem_toList_iff.mpr (Array.getElem_mem hi)) (by simpa using z)
  unfold dictFind
  refine wpAny_holding (wpAny_bind (wpAny_dictEntries ho hd ?_))
  dsimp only
  rw [empty]
  exact wpAny_bind (wpAny_pure (wpAny_pure fin))
theorem in_none {d : Addr} {o : Obj} {es : Array DictEntry} {ep : Nat} {Q : Value → Shared → Prop} (ho : s.heap.get? d = some o) (ex : o.ExactDict) (hd : o.data = .dict es ep) (low : (d == sysModules) = false) (no : ∀ e ∈ es.toList, e.hash ≠ (noneKind P w).hash none)
    (fin : Q (.bool false) { s with toks := s.toks + 1 }) : wpAny (model P w) A (compareOp .In .none (.ref d)) Q E s := by
  have ty : s.TypeIs (.ref d) "dict" := ⟨o, ho, ex.1⟩
  show wpAny _ _ (contains (.ref d) .none >>= fun b => pure (.bool b)) Q E s
  refine wpAny_bind ?_
  unfold contains
  refine wpAny_holding (wpAny_bind (wpAny_specialOf ty slot_dict_contains.lookup ?_))
  rw [if_neg (by decide)]
  refine wpAny_bind (wpAny_callSpecialUnlessNone?_slot (name := Str.ofString "__contains__") ty slot_dict_contains (wpAny_call_entry slot_dict_contains ty entry_dict_contains ?_ (args_dict_contains _ _)))
  show wpAny _ _ (dictGet d .none >>= _) _ _ s
  unfold dictGet
  refine wpAny_bind (wpAny_holding (wpAny_bind ((noneKind P w).pyHash (k := none) rfl (wpAny_bind (find_noHash (s := { s with toks := s.toks + 1 }) ho hd no (wpAny_pure ?_))))))
  show wpAny _ _ (Builtin.Dict.pendingKey? d .none >>= _) _ _ _
  exact wpAny_bind (wpAny_pendingKey_other low (wpAny_pure ⟨_, rfl, wpAny_truthy_bool (wpAny_pure fin)⟩))
end
section
variable {X : Cx} {o i : Expr} {td ty : TE}
/-- None in d: not there -/
def tDNone (P : Program) (w : World) (ty td : TE) : TE := fun σ H Q => ty σ H fun y H1 => td σ H1 fun x H2 => ∃ a kvs, x = .ref a ∧ y = .non ∧ Rd H2 a (.dT kvs) ∧ (∀ p ∈ kvs, tupleKeyHash (mixKind P w) p.1 ≠ reduceHash 0xFCA86420) ∧ Q (.bl false) H2
theorem pc_none (hi : PE X i ty) (ho : PE X o td) : PC X .In i o (tDNone X.prog X.w ty td) := ⟨fun pins s σ H Q I h => by
  refine thn (hi.run pins s σ H _ I h) fun iv s1 got => ?_
  obtain ⟨y, H1, I1, ry, q1⟩ := got
  refine thn (ho.run pins s1 σ H1 _ I1 q1) fun u s2 got => ?_
  obtain ⟨x, H2, I2, rx, a, kvs, rfl, rfl, rd, no, fin⟩ := got
  cases rx
  cases ry
  obtain ⟨_, low, xs, kt, q, es, ep, at0, ex, dat, ents, -⟩ := dt_rd I2.hok rd
  refine in_none at0 ex dat low (fun e he => ?_) ⟨.bl false, H2, I2.tok _, rfl, fin⟩
  rw [ents] at he
  obtain ⟨z, hz, rfl⟩ := List.mem_map.mp he
  have hk : z.1 ∈ kvs.map (·.1) := KT.keysEq kt ▸ List.mem_map_of_mem hz
  obtain ⟨p, hp, ep⟩ := List.mem_map.mp hk
  show tupleKeyHash (mixKind X.prog X.w) z.1 ≠ reduceHash 0xFCA86420
  rw [← ep]
  exact no p hp⟩
/-- y in d, y a tuple or None -/
def tDInZ (P : Program) (w : World) (ty td : TE) : TE := fun σ H Q => tDIn ty td σ H Q ∨ tDNone P w ty td σ H Q
theorem pc_dinZ (hu : X.A.units + 1 < cLine) (hi : PE X i ty) (ho : PE X o td) : PC X .In i o (tDInZ X.prog X.w ty td) := ⟨fun pins s σ H Q I h => h.elim ((pc_din hu hi ho).run pins s σ H Q I) ((pc_none hi ho).run pins s σ H Q I)⟩
end
/-- the hash of a row of ints -/
def rowHash (ns : List Int) : Int := reduceHash (Builtin.Tuple.tupleHashOf (ns.map hashInt))
theorem hash_row (P : Program) (w : World) (ns : List Int) : tupleKeyHash (mixKind P w) (ik ns) = rowHash ns := by
  unfold tupleKeyHash rowHash ik
  rw [List.map_map]
  rfl
theorem RepKv.keys {K : PySem.W.Frag} {B : Hp} {m : List (List Int × D)} {kvs : List (List L2.Key × V)} (h : RepKv K B kvs m) : kvs.map (·.1) = m.map fun p => ik p.1 := by
  induction m generalizing kvs with
  | nil => cases h; rfl
  | cons p m ih =>
    cases h with
    | cons h1 h2 => rw [List.map_cons, List.map_cons, ih h2]
section
variable {K : PySem.W.Frag} {ss ss1 ss2 : Sl} {mem m1 m2 m3 m4 : List Mc} {ta tb tc te td ty tx tv : TE} {i j : Int} {d e : D} {r r' x : Vl} {t u : TS} {out : Out} {k : List Int} {m : List (List Int × D)} {P : Program} {w : World}
theorem dt_dinZ (hy : DT K ty ss mem (.dat (rowD k)) m1) (hd : DT K td ss m1 x m2) (hm : IsDic m2 x m) : DT K (tDInZ P w ty td) ss mem (.dat (.bl (getI m k).isSome)) m2 := fun B H al σ Q S q => .inl (dt_din hy hd hm B H al σ Q S q)
theorem dt_noneIn (hy : DT K ty ss mem (.dat .non) m1) (hd : DT K td ss m1 x m2) (hm : IsDic m2 x m) (no : ∀ p ∈ m, rowHash p.1 ≠ reduceHash 0xFCA86420) : DT K (tDInZ P w ty td) ss mem (.dat (.bl false)) m2 := fun B H al σ Q S q => .inr <|
  hy B H al σ _ S fun B1 H1 al1 v P1 S1 r1 => hd B1 H1 al1 σ _ S1 fun B2 H2 al2 v2 P2 S2 r2 => by
    cases r1
    obtain ⟨a, kvs, rfl, rd, rk⟩ := dic_at S2 r2 hm
    refine ⟨a, kvs, rfl, rfl, rd, fun p hp => ?_, q _ _ _ _ (P1.trans P2) S2 (.bl _)⟩
    have hk : p.1 ∈ m.map fun p => ik p.1 := rk.keys ▸ List.mem_map_of_mem hp
    obtain ⟨z, hz, ez⟩ := List.mem_map.mp hk
    rw [← ez, hash_row]
    exact no z hz
/-- dict(d): a new own dict -/
theorem dt_dictD (hd : DT K td ss mem x m1) (hm : IsDic m1 x m) (ap : (m.map fun p => rowHash p.1).Nodup) : DT K (tCB (rDictDT P w) (tCons td tNil)) ss mem (.own m1.length) (m1 ++ [.dic m]) := fun B H al σ Q S k =>
  hd B H al σ _ S fun B1 H1 al1 v P1 S1 r1 => by
    obtain ⟨a, kvs, rfl, rd, rk⟩ := dic_at S1 r1 hm
    refine ⟨a, kvs, rfl, rd, ?_, fun q nq => ?_⟩
    · have e : (kvs.map fun p => tupleKeyHash (mixKind P w) p.1) = m.map fun p => rowHash p.1 := by
        rw [show (kvs.map fun p => tupleKeyHash (mixKind P w) p.1) = (kvs.map (·.1)).map (tupleKeyHash (mixKind P w)) by rw [List.map_map]; rfl, rk.keys, List.map_map]
        exact List.map_congr_left fun p _ => hash_row P w p.1
      rw [e]
      exact ap
    · obtain ⟨P2, S2⟩ := S1.layOwn (o := .dT kvs) (m := .dic m) nq ⟨S1.sub.free nq, kvs, upd_same, rk⟩
      exact k _ _ _ _ (P1.trans P2) S2 ⟨q, by rw [← S1.mlen, List.getElem?_append_right (Nat.le_refl _), Nat.sub_self]; rfl, rfl⟩
/-- d.pop(k), d own, k there -/
theorem dt_pop1 {n : Nat} {t : TA} (ho : DT K td ss mem (.own n) m1) (hm1 : m1[n]? = some (.dic m)) (ht : DA K t ss m1 [rowD k] m2) (hm : m2[n]? = some (.dic m)) (hv : getI m k = some d) : DT K (tBM K "dict" rPop1T td t) ss mem (.dat d) (m2.set n (.dic (dropI m k))) := fun B H al σ Q S q =>
  ho B H al σ _ S fun B1 H1 al1 v P1 S1 r1 => by
    obtain ⟨a, a1, rfl⟩ := r1
    obtain ⟨_, kv0, a2, a3⟩ := S1.mem n a _ a1 hm1
    refine ⟨.inr (.inr (.inl ⟨rfl, .inr ⟨_, a2⟩⟩)), ht B1 H1 al1 σ _ S1 fun B2 H2 al2 vs P2 S2 r2 => ?_⟩
    obtain ⟨w0, rfl, rw0⟩ := one_data r2
    have a1' := P2.get a1
    obtain ⟨b0, kvs, c2, c3⟩ := S2.mem n a _ a1' hm
    obtain ⟨b, rfl, hb⟩ := rep_key rw0
    rcases c3.get k with ⟨y, d', g1, g2, g3⟩ | ⟨_, g2⟩
    · cases hv.symm.trans g2
      obtain ⟨P3, S3⟩ := S2.write (o := .dT (dropK kvs (ik k))) (m := .dic (dropI m k)) a1' b0 ⟨b0, _, upd_same, c3.drop⟩
      exact ⟨a, kvs, ik k, b, y, rfl, rfl, c2, S2.sub _ _ hb, g1, q _ _ _ _ ((P1.trans P2).trans P3) S3 (Rep.mono P3.same _ g3)⟩
    · cases hv.symm.trans g2
end
/-- all rows of four small ints: places under 5, ice under 7, warm hours under 3, lateness under 5 -/
def rows4 : List (List Int) := (List.range 5).flatMap fun p : Nat => (List.range 7).flatMap fun i : Nat => (List.range 3).flatMap fun h : Nat => (List.range 5).map fun l : Nat => [(p : Int), (i : Int), (h : Int), (l : Int)]
theorem rows4_apart : (rows4.map rowHash).Nodup := by decide +kernel
theorem rows4_none : ∀ k ∈ rows4, rowHash k ≠ reduceHash 0xFCA86420 := by decide +kernel
theorem apart_of {m : List (List Int × D)} (nd : (m.map (·.1)).Nodup) (inn : ∀ p ∈ m, p.1 ∈ rows4) : (m.map fun p => rowHash p.1).Nodup := by
  have inj : ∀ a ∈ rows4, ∀ b ∈ rows4, rowHash a = rowHash b → a = b := fun a ha b hb e => by
    obtain ⟨i, hi, rfl⟩ := List.mem_iff_getElem.mp ha
    obtain ⟨j, hj, rfl⟩ := List.mem_iff_getElem.mp hb
    have hij : i = j := (List.getElem?_inj (l := rows4.map rowHash) (by rw [List.length_map]; exact hi) rows4_apart).mp (by
      rw [List.getElem?_map, List.getElem?_map, List.getElem?_eq_getElem hi, List.getElem?_eq_getElem hj]
      exact congrArg some e)
    subst hij
    rfl
  induction m with
  | nil => exact List.nodup_nil
  | cons p m ih =>
    rw [List.map_cons, List.nodup_cons] at nd ⊢
    refine ⟨fun z => nd.1 ?_, ih nd.2 fun q hq => inn q (List.mem_cons_of_mem _ hq)⟩
    obtain ⟨q, hq, e⟩ := List.mem_map.mp z
    rw [← inj q.1 (inn q (List.mem_cons_of_mem _ hq)) p.1 (inn p List.mem_cons_self) e]
    exact List.mem_map_of_mem hq
end DL
end
section
set_option Elab.async false
set_option linter.all false
set_option maxRecDepth 100000
/-! dict(pairs), list(d), said of data -/
namespace DL
open PySem PySem.Spec PyProof.Rows L2
def pairD (p : List Int × D) : D := .tup [rowD p.1, p.2]
section
variable {K : PySem.W.Frag} {ss ss1 ss2 : Sl} {mem m1 m2 m3 m4 : List Mc} {ta tb tc te td ty tx tv : TE} {i j : Int} {d e : D} {r r' x : Vl} {t u : TS} {out : Out} {k : List Int} {m : List (List Int × D)} {P : Program} {w : World}
theorem RepAll.pairs {B : Hp} : ∀ {m : List (List Int × D)} {vs : List V}, RepAll K B vs (m.map pairD) → ∃ (ps bs : List Addr) (kvs : List (List L2.Key × V)), vs = ps.map V.ref ∧ ps.length = kvs.length ∧ bs.length = kvs.length ∧ RepKv K B kvs m ∧
    ∀ (j : Nat) p b k v, ps[j]? = some p → bs[j]? = some b → kvs[j]? = some (k, v) → B p = some (.tup [.ref b, v]) ∧ B b = some (.tup (k.map kV))
  | [], _, h => by
    cases h
    exact ⟨[], [], [], rfl, rfl, rfl, .nil, fun j p b k v e => by simp at e⟩
  | (k, d) :: m, _, h => by
    cases h with
    | cons h1 h2 =>
      obtain ⟨ps, bs, kvs, rfl, l1, l2, rk, at_⟩ := RepAll.pairs h2
      cases h1 with
      | @tup p xs _ s r =>
        obtain ⟨v1, v2, rfl, r1, r2⟩ := two_data r
        obtain ⟨b, rfl, hb⟩ := rep_key r1
        refine ⟨p :: ps, b :: bs, (ik k, v2) :: kvs, rfl, by simp [l1], by simp [l2], .cons r2 rk, fun j p' b' k' v' e1 e2 e3 => ?_⟩
        cases j with
        | zero =>
          cases e1
          cases e2
          cases e3
          exact ⟨s, hb⟩
        | succ j => exact at_ j p' b' k' v' (by simpa using e1) (by simpa using e2) (by simpa using e3)
def putAllI (acc m : List (List Int × D)) : List (List Int × D) := m.foldl (fun c p => putI c p.1 p.2) acc
theorem RepKv.putAll {B : Hp} : ∀ {m : List (List Int × D)} {kvs : List (List L2.Key × V)}, RepKv K B kvs m → ∀ {acc : List (List L2.Key × V)} {n : List (List Int × D)}, RepKv K B acc n → RepKv K B (DL.putAll acc kvs) (putAllI n m)
  | [], _, h, _, _, g => by cases h; exact g
  | p :: m, _, h, acc, n, g => by
    cases h with
    | cons h1 h2 => exact RepKv.putAll h2 (g.put h1)
/-- dict([(k, v), ..]) -/
theorem dt_dictPr (h : DT K te ss mem (.dat (.lst (m.map pairD))) m1) : DT K (tCB (rDictPrT K) (tCons te tNil)) ss mem (.own m1.length) (m1 ++ [.dic (putAllI [] m)]) := fun B H al σ Q S q =>
  h B H al σ _ S fun B1 H1 al1 v P1 S1 r1 => by
    cases r1 with
    | @lst l xs _ s r =>
      obtain ⟨ps, bs, kvs, rfl, l1, l2, rk, at_⟩ := r.pairs
      refine ⟨l, ps, bs, kvs, rfl, S1.seqL s, l1, l2, fun j p b k v e1 e2 e3 => let z := at_ j p b k v e1 e2 e3; ⟨S1.sub _ _ z.1, S1.sub _ _ z.2⟩, fun c nc => ?_⟩
      obtain ⟨P2, S2⟩ := S1.layOwn (o := .dT (DL.putAll [] kvs)) (m := .dic (putAllI [] m)) nc ⟨S1.sub.free nc, _, upd_same, RepKv.putAll rk .nil⟩
      exact q _ _ _ _ (P1.trans P2) S2 ⟨c, by rw [← S1.mlen, List.getElem?_append_right (Nat.le_refl _), Nat.sub_self]; rfl, rfl⟩
/-- the key tuples of a dict are taken into the base -/
theorem Sit.takeKeys {H : Hp} {al : List Addr} {σ : L2.St} : ∀ {m : List (List Int × D)} {kvs : List (List L2.Key × V)} {bs : List Addr} {B : Hp}, Sit K B H al σ ss mem → RepKv K B kvs m → IsKeys H kvs bs →
    ∃ B', Stp B H al B' H al ∧ Sit K B' H al σ ss mem ∧ RepAll K B' (bs.map V.ref) (m.map fun p => rowD p.1)
  | [], _, _, B, S, rk, ks => by
    cases rk
    cases ks
    exact ⟨B, Stp.refl _ _ _, S, .nil⟩
  | (k, d) :: m, _, _, B, S, rk, ks => by
    cases rk with
    | cons r1 r2 =>
      cases ks with
      | @cons _ b _ bs hb ks =>
        obtain ⟨B1, P1, S1, ra⟩ := Sit.takeKeys S r2 ks
        have done : ∀ B2, Same B1 B2 → B2 b = some (.tup ((ik k).map kV)) → RepAll K B2 (V.ref b :: bs.map V.ref) (rowD k :: m.map fun p => rowD p.1) := fun B2 sm e => .cons (key_rep e) (RepAll.mono sm _ ra)
        rcases Option.eq_none_or_eq_some (B1 b) with nb | ⟨o, eb⟩
        · have sB : Same B1 (upd B1 b (.tup ((ik k).map kV))) := fun c u e => by rw [upd_ne (ne_of_none e nb)]; exact e
          refine ⟨_, P1.trans (B2 := upd B1 b (.tup ((ik k).map kV))) (H2 := H) (al2 := al) ⟨sB, fun _ _ e _ => e, fun c h => ?_, fun _ h => h, [], by rw [List.append_nil], fun _ h => by cases h⟩,
            ⟨fun c u e => ?_, S1.len, fun i r e => ?_, S1.mlen, fun n c q e1 e2 => ?_, S1.nd, S1.there⟩, done _ sB upd_same⟩
          · by_cases z : c = b
            · exact .inr (.inr (.inr ⟨_, z ▸ hb⟩))
            · exact .inl (by rw [upd_ne z] at h; exact h)
          · by_cases z : c = b
            · subst z
              rw [upd_same] at e
              exact e ▸ hb
            · exact S1.sub c u (by rw [upd_ne z] at e; exact e)
          · obtain ⟨v, h1, h2⟩ := S1.slot i r e
            refine ⟨v, h1, ?_⟩
            cases r with
            | dat d => exact Rep.mono sB d h2
            | own n => exact h2
            | tl ds => exact h2.imp fun a z => z.imp fun xs y => ⟨y.1, sB _ _ y.2.1, RepAll.mono sB ds y.2.2⟩
            | lk ds =>
              obtain ⟨a, o', kvs, z1, z2, z3⟩ := h2
              exact ⟨a, o', kvs, z1, sB _ _ z2, RepKv.mono sB ds z3⟩
          · have old := S1.mem n c q e1 e2
            cases q with
            | gone => trivial
            | _ =>
              refine old.grow sB (upd_ne fun z => ?_)
              subst z
              simp only [McOk, hb] at old
              obtain ⟨_, z⟩ := old
              simp at z
        · have z := S1.sub _ _ eb
          rw [hb] at z
          cases z
          exact ⟨B1, P1, S1, done _ (Same.refl _) eb⟩
def rListDT : List V → Hp → VK → Prop := fun xs H Q => ∃ d kvs, xs = [V.ref d] ∧ Rd H d (.dT kvs) ∧ ∀ p bs, H p = none → IsKeys H kvs bs → Q (.ref p) (upd H p (.lst (bs.map V.ref)))
/-- list(d): its keys, as data -/
theorem dt_listD (hd : DT K td ss mem x m1) (hm : IsDic m1 x m) : DT K (tCB rListDT (tCons td tNil)) ss mem (.dat (.lst (m.map fun p => rowD p.1))) m1 := fun B H al σ Q S q =>
  hd B H al σ _ S fun B1 H1 al1 v P1 S1 r1 => by
    obtain ⟨a, kvs, rfl, rd, rk⟩ := dic_at S1 r1 hm
    refine ⟨a, kvs, rfl, rd, fun p bs np ks => ?_⟩
    obtain ⟨B2, P2, S2, ra⟩ := S1.takeKeys rk ks
    obtain ⟨P3, S3⟩ := S2.lay (o := .lst (bs.map V.ref)) np
    exact q _ _ _ _ ((P1.trans P2).trans P3) S3 (.lst (SqL.of upd_same) (RepAll.mono P3.same _ ra))
end
end DL
end
section
set_option Elab.async false
set_option linter.all false
set_option maxRecDepth 100000
/-! dicts of ints, as data -/
namespace DL
open PySem PySem.Spec PyProof.Rows L2
/-- a dict of ints -/
def toD (mi : List (List Int × Int)) : List (List Int × D) := mi.map fun p => (p.1, .int p.2)
def lookI : List (List Int × Int) → List Int → Option Int
  | [], _ => none
  | p :: m, k => if p.1 = k then some p.2 else lookI m k
theorem getI_toD (mi : List (List Int × Int)) (k : List Int) : getI (toD mi) k = (lookI mi k).map D.int := by
  induction mi with
  | nil => rfl
  | cons p m ih =>
    show (if p.1 = k then _ else getI (toD m) k) = (if p.1 = k then _ else lookI m k).map D.int
    by_cases e : p.1 = k
    · rw [if_pos e, if_pos e]; rfl
    · rw [if_neg e, if_neg e]; exact ih
end DL
end
section
set_option Elab.async false
set_option linter.all false
set_option maxRecDepth 100000
/-! == of dicts with tuple keys and ints as values -/
namespace DL
open PySem PySem.Spec PyProof.Rows L2
section
variable {P : Program} {w : World} {A : Around} {E : Value → Shared → Prop} {s : Shared} {κ : Type} [DecidableEq κ] {knd : HeapKind P w κ}
/-- what the ints at the keys say of the i-th pair of the first -/
def hitAt (xs ys : List (κ × Addr × Value)) (val : Value → Int) (i : Nat) : Bool := match xs[i]? with
  | some x => (match atKey ys x.1 with
    | some y => val x.2.2 == val y.2
    | none => false)
  | none => false
def IntV (v : Value) : Prop := ∃ i t, v = .int i t
def intOf : Value → Int
  | .int i _ => i
  | _ => 0
theorem pairs_same {nm : String} {a b : Addr} {xs ys : List (κ × Addr × Value)} {Q : Bool → Shared → Prop} (la : (a == sysModules) = false) (lb : (b == sysModules) = false) (hu : knd.room A) (da : s.heap.DictOfH knd a xs) (db : s.heap.DictOfH knd b ys)
    (ix : ∀ x ∈ xs, IntV x.2.2) (iy : ∀ y ∈ ys, IntV y.2.2) (fin : ∀ r, (r = true ↔ xs.length = ys.length ∧ ∀ i < xs.length, hitAt xs ys intOf i = true) → Q r s) : wpAny (model P w) A (Builtin.Dict.samePairs nm a b) Q E s := by
  obtain ⟨oa, ea, pa, ga, -, ta, na, ka, -⟩ := da
  obtain ⟨ob, eb, pb, gb, -, tb, nb, kb, ndb⟩ := db
  have sa : ea.size = xs.length := size_of_entries na
  have sb : eb.size = ys.length := size_of_entries nb
  unfold Builtin.Dict.samePairs
  unfold Builtin.Dict.showsAll
  rw [la, lb]
  refine wpAny_bind (wpAny_pure (wpAny_bind (wpAny_pure (wpAny_bind (wpAny_dictEntries ga ta ?_)))))
  dsimp only
  refine wpAny_bind (wpAny_dictEntries gb tb ?_)
  by_cases sz : ea.size = eb.size
  case neg =>
    rw [if_pos (by simpa using sz)]
    refine wpAny_bind (wpAny_rule (wpAny_pure (fin false ⟨(fun z => nomatch z), fun z => absurd z.1 (by rw [← sa, ← sb]; exact sz)⟩)))
  case pos =>
    rw [if_neg (by simp [sz])]
    refine wpAny_bind (wpAny_dictEpoch ga ta (wpAny_bind ?_))
    rw [Std.Legacy.Range.forIn_eq_forIn_range']
    simp only [Nat.div_one, Nat.add_sub_cancel, Nat.sub_zero, Std.Legacy.Range.size]
    refine wpAny_forIn_list _ (fun rest acc s' => s' = s ∧ acc = (none, ()) ∧ ∃ i, rest = List.range' i (ea.size - i) ∧ i ≤ ea.size ∧ ∀ j < i, hitAt xs ys intOf j = true) _ ?_ ?_ _ _ ⟨rfl, rfl, 0, rfl, Nat.zero_le _, fun j z => absurd z (Nat.not_lt_zero j)⟩
    · rintro i rest acc s' ⟨rfl, rfl, i', er, le, so⟩
      have lt : i' < ea.size := Decidable.byContradiction fun z => by
        rw [show ea.size - i' = 0 by omega] at er
        exact absurd er (by simp)
      rw [show ea.size - i' = ea.size - (i' + 1) + 1 by omega, List.range'_succ] at er
      obtain ⟨rfl, rfl⟩ := List.cons.inj er
      have lx : i < xs.length := by omega
      obtain ⟨⟨k, c, u⟩, ex⟩ : ∃ x, xs[i]? = some x := ⟨_, List.getElem?_eq_getElem lx⟩
      have mx := List.mem_of_getElem? ex
      obtain ⟨n, t, rfl⟩ := ix _ mx
      refine wpAny_bind (wpAny_dictEntries ga ta ?_)
      rw [entry_at na i, ex]
      have bad : hitAt xs ys intOf i = false → Q false s' := fun z => fin false ⟨(fun y => nomatch y), fun y => absurd (y.2 i lx) (by rw [z]; exact Bool.false_ne_true)⟩
      show wpAny _ _ (holding [Value.ref c, Value.int n t] _ >>= _) _ _ _
      refine wpAny_bind (wpAny_holding (wpAny_bind (wpAny_dictFind_heap hu (ka _ mx) gb tb nb kb ndb (fun miss => ?_) fun j p ej => ?_)))
      · refine wpAny_pure ?_
        show wpAny _ _ (ite ((!false) = true) _ _) _ _ _
        rw [if_pos (by decide)]
        refine wpAny_pure (wpAny_pure (bad ?_))
        unfold hitAt
        rw [ex]
        show (match atKey ys k with | some y => _ | none => false) = false
        rw [atKey_none_of_get miss]
      · refine wpAny_bind (wpAny_dictEntries gb tb ?_)
        rw [entry_at nb j, ej]
        obtain ⟨n', t', ep⟩ := iy _ (List.mem_of_getElem? ej)
        have hit : hitAt xs ys intOf i = (n == n') := by
          unfold hitAt
          rw [ex]
          show (match atKey ys k with | some y => _ | none => false) = _
          rw [atKey_of_get ndb ej]
          show (n == intOf p.2) = _
          rw [show p.2 = Value.int n' t' from ep]
          rfl
        refine wpAny_holding (SeqAt.EqAt.int_int n t n' t' P w _ _ ?_ |> fun z => by rw [← ep] at z; exact z)
        cases q : n == n' with
        | false =>
          show wpAny _ _ (ite ((!false) = true) _ _) _ _ _
          rw [if_pos (by decide)]
          exact wpAny_pure (wpAny_pure (bad (hit.trans q)))
        | true =>
          show wpAny _ _ (ite ((!true) = true) _ _) _ _ _
          rw [if_neg (by decide)]
          refine wpAny_bind (wpAny_dictEpoch ga ta ?_)
          rw [if_neg (by simp)]
          refine wpAny_pure ⟨rfl, rfl, i + 1, rfl, lt, fun j hj => ?_⟩
          rcases Nat.lt_succ_iff_lt_or_eq.mp hj with z | z
          · exact so j z
          · rw [z, hit, q]
    · rintro acc s' ⟨rfl, rfl, i, er, le, so⟩
      have ei : i = ea.size := Decidable.byContradiction fun z => by
        rw [show ea.size - i = ea.size - (i + 1) + 1 by omega, List.range'_succ] at er
        exact absurd er (by simp)
      subst ei
      exact wpAny_pure (fin true ⟨fun _ => ⟨by omega, fun i hi => so i (by omega)⟩, fun _ => rfl⟩)
end
section
variable {X : Cx}
/-- d == e: keys tuples, values ints -/
def rEqDT : R2 := fun x y H Q => ∃ (a b : Addr) (ks ls : List (List L2.Key × V)), x = .ref a ∧ y = .ref b ∧ Rd H a (.dT ks) ∧ Rd H b (.dT ls) ∧ (∀ p ∈ ks, ∃ i, p.2 = .int i) ∧ (∀ p ∈ ls, ∃ i, p.2 = .int i) ∧
  ∀ r, (r = true ↔ ks.length = ls.length ∧ ∀ p ∈ ks, valV ls p.1 = some p.2) → Q (.bl r) H
theorem KT.ints {H : Hp} {kvs : List (List L2.Key × V)} {xs : List (List L2.Key × Addr × Value)} (r : KT H kvs xs) (h : ∀ p ∈ kvs, ∃ i, p.2 = .int i) : ∀ x ∈ xs, IntV x.2.2 := by
  induction r with
  | nil => exact fun _ z => nomatch z
  | @cons p q ps qs a t ih =>
    intro x hx
    rcases List.mem_cons.mp hx with z | z
    · obtain ⟨i, e⟩ := h p List.mem_cons_self
      have rel := a.2.2
      rw [e] at rel
      exact ⟨i, rel.choose, z ▸ rel.choose_spec⟩
    · exact ih (fun p hp => h p (List.mem_cons_of_mem _ hp)) x z
theorem KT.nth {H : Hp} {kvs : List (List L2.Key × V)} {xs : List (List L2.Key × Addr × Value)} (r : KT H kvs xs) : ∀ (i : Nat) p, kvs[i]? = some p → ∃ x, xs[i]? = some x ∧ x.1 = p.1 ∧ RelV p.2 x.2.2 := by
  induction r with
  | nil => exact fun i p e => by simp at e
  | @cons p q ps qs a t ih =>
    intro i z e
    cases i with
    | zero => exact ⟨q, rfl, Option.some.inj e ▸ a.1.symm, Option.some.inj e ▸ a.2.2⟩
    | succ i => exact ih i z (by simpa using e)
theorem op_eqDT (hu : X.A.units + 1 < cLine) : OpR X (compareOp .Eq) rEqDT := by
  rintro pins s σ H x y v u Q I rx ry ⟨a, b, ks, ls, rfl, rfl, ra, rb, ik1, il1, fin⟩
  cases rx
  cases ry
  obtain ⟨_, la, xs, ka, da⟩ := dt_rd I.hok ra
  obtain ⟨_, lb, ys, kb, db⟩ := dt_rd I.hok rb
  refine wpAny_richCompare_same_room (op := .Eq) da.typeIs db.typeIs PySem.F.slot_dict_eq (wpAny_call_entry PySem.F.slot_dict_eq da.typeIs PySem.F.entry_dict_eq ?_ (PySem.F.args_dict_eq_2 _ _)) (Nat.lt_of_succ_lt hu)
  change wpAny _ _ (Bind.bind (Builtin.Dict.dictSlotArgs "__eq__" ⟨[.ref a, .ref b], []⟩) _) _ _ s
  unfold Builtin.Dict.dictSlotArgs
  refine wpAny_bind (wpAny_bind (wpAny_notOrdered_dict da.typeIs (wpAny_pure ?_)))
  refine wpAny_bind (wpAny_isInstance (b := true) (T := "dict") db.typeIs PySem.F.sub_dict_dict ?_)
  simp only [if_false, Bool.false_eq_true, Bool.not_true]
  refine wpAny_bind (wpAny_pure (wpAny_bind (wpAny_pure (wpAny_bind (pairs_same la lb hu da db (KT.ints ka ik1) (KT.ints kb il1) fun r hr => wpAny_pure ⟨_, rfl, (fun z => nomatch z), ?_⟩)))))
  have l1 : ks.length = xs.length := Paired.length ka
  have l2 : ls.length = ys.length := Paired.length kb
  refine ⟨.bl r, H, I, (by cases r <;> rfl), fin r (hr.trans ⟨fun z => ⟨by omega, fun p hp => ?_⟩, fun z => ⟨by omega, fun i hi => ?_⟩⟩)⟩
  · obtain ⟨i, hi⟩ := List.mem_iff_getElem?.mp hp
    obtain ⟨x, hx, ex, rx⟩ := KT.nth ka i p hi
    have h := z.2 i (List.getElem?_eq_some_iff.mp hx).1
    unfold hitAt at h
    rw [hx] at h
    dsimp only at h
    rw [ex] at h
    obtain ⟨n, en⟩ := ik1 p hp
    rw [en] at rx ⊢
    obtain ⟨t, et⟩ := rx
    have rel := kb.val p.1
    cases q : atKey ys p.1 with
    | none =>
      rw [q] at h
      cases h
    | some y =>
      rw [q] at h rel
      cases q2 : valV ls p.1 with
      | none =>
        rw [q2] at rel
        exact rel.elim
      | some v =>
        rw [q2] at rel
        have mem : ∃ p' ∈ ls, p'.2 = v := by
          unfold valV at q2
          obtain ⟨p', e1, e2⟩ := Option.map_eq_some_iff.mp q2
          exact ⟨p', List.mem_of_find?_eq_some e1, e2⟩
        obtain ⟨p', hp', rfl⟩ := mem
        obtain ⟨n', en'⟩ := il1 p' hp'
        rw [en'] at rel ⊢
        obtain ⟨t', et'⟩ := (show L2.RelV (.int n') y.2 from rel)
        dsimp only at h
        rw [et, et'] at h
        have : n = n' := by simpa [intOf] using h
        rw [this]
  · obtain ⟨p, hp⟩ : ∃ p, ks[i]? = some p := ⟨_, List.getElem?_eq_getElem (by omega)⟩
    obtain ⟨x, hx, ex, rx⟩ := KT.nth ka i p hp
    have h := z.2 p (List.mem_of_getElem? hp)
    have rel := kb.val p.1
    rw [h] at rel
    unfold hitAt
    rw [hx]
    show (match atKey ys x.1 with | some y => intOf x.2.2 == intOf y.2 | none => false) = true
    rw [ex]
    cases q : atKey ys p.1 with
    | none =>
      rw [q] at rel
      exact rel.elim
    | some y =>
      rw [q] at rel
      obtain ⟨n, en⟩ := ik1 p (List.mem_of_getElem? hp)
      rw [en] at rx rel
      obtain ⟨t, et⟩ := rx
      obtain ⟨t', et'⟩ := (show L2.RelV (.int n) y.2 from rel)
      show (intOf x.2.2 == intOf y.2) = true
      rw [et, et']
      simp [intOf]
end
def eqI (mi ni : List (List Int × Int)) : Bool := decide (mi.length = ni.length ∧ ∀ p ∈ mi, lookI ni p.1 = some p.2)
section
variable {K : PySem.W.Frag} {ss : Sl} {mem m1 m2 : List Mc} {ta tb : TE} {x y : Vl} {mi ni : List (List Int × Int)}
theorem kv_ints {B : Hp} : ∀ {mi : List (List Int × Int)} {kvs : List (List L2.Key × V)}, RepKv K B kvs (toD mi) → kvs = mi.map fun p => (ik p.1, V.int p.2)
  | [], _, h => by cases h; rfl
  | p :: m, _, h => by
    cases h with
    | cons h1 h2 =>
      cases h1
      rw [kv_ints (mi := m) h2]
      rfl
theorem valV_ints (k : List Int) : ∀ mi : List (List Int × Int), valV (mi.map fun p => (ik p.1, V.int p.2)) (ik k) = (lookI mi k).map V.int
  | [] => rfl
  | p :: m => by
    show valV ((ik p.1, V.int p.2) :: _) (ik k) = (if p.1 = k then some p.2 else lookI m k).map V.int
    by_cases e : p.1 = k
    · rw [if_pos e, valV_pos (congrArg ik e)]; rfl
    · rw [if_neg e, valV_neg fun z => e (ik_inj z)]
      exact valV_ints k m
theorem dt_eqDic (ha : DT K ta ss mem x m1) (hb : DT K tb ss m1 y m2) (da : IsDic m2 x (toD mi)) (db : IsDic m2 y (toD ni)) : DT K (tOp rEqDT ta tb) ss mem (.dat (.bl (eqI mi ni))) m2 :=
  dt_op ha hb fun B H al σ v w Q S hv hw k => by
    obtain ⟨a, ks, rfl, ra, ka⟩ := dic_at S hv da
    obtain ⟨b, ls, rfl, rb, kb⟩ := dic_at S hw db
    obtain rfl := kv_ints ka
    obtain rfl := kv_ints kb
    refine ⟨a, b, _, _, rfl, rfl, ra, rb, fun p hp => ?_, fun p hp => ?_, fun r hr => ?_⟩
    · obtain ⟨q, -, rfl⟩ := List.mem_map.mp hp
      exact ⟨_, rfl⟩
    · obtain ⟨q, -, rfl⟩ := List.mem_map.mp hp
      exact ⟨_, rfl⟩
    · have e : r = eqI mi ni := by
        have z : r = true ↔ eqI mi ni = true := by
          rw [hr]
          unfold eqI
          rw [decide_eq_true_iff, List.length_map, List.length_map]
          refine and_congr_right fun _ => ⟨fun h p hp => ?_, fun h p hp => ?_⟩
          · have := h (ik p.1, .int p.2) (List.mem_map.mpr ⟨p, hp, rfl⟩)
            rw [valV_ints] at this
            cases q : lookI ni p.1 with
            | none => rw [q] at this; cases this
            | some i =>
              rw [q] at this
              cases this
              rfl
          · obtain ⟨q, hq, rfl⟩ := List.mem_map.mp hp
            rw [valV_ints, h q hq]
            rfl
        cases r <;> cases q : eqI mi ni <;> simp_all
      rw [e]
      exact k _ _ _ _ (Stp.refl _ _ _) S (.bl _)
end
end DL
end
section
set_option Elab.async false
set_option linter.all false
set_option maxRecDepth 100000
/-! xs[::-1], x is True -/
namespace DL
open PySem PySem.Spec PyProof.Rows L2
section
variable {K : PySem.W.Frag} {ss : Sl} {mem m1 m2 : List Mc} {te ta tb : TE} {ds : List D} {a b : Bool}
theorem RepAll.reverse {B : Hp} : ∀ {ds : List D} {vs : List V}, RepAll K B vs ds → RepAll K B vs.reverse ds.reverse
  | [], _, h => by cases h; exact .nil
  | d :: ds, _, h => by
    cases h with
    | cons h1 h2 =>
      rw [List.reverse_cons, List.reverse_cons]
      exact (RepAll.reverse h2).append (.cons h1 .nil)
theorem dt_rev (h : DT K te ss mem (.dat (.lst ds)) m1) : DT K (tRevL K te) ss mem (.dat (.lst ds.reverse)) m1 := fun B H al σ Q S k =>
  h B H al σ _ S fun B1 H1 al1 v P1 S1 r1 => by
    cases r1 with
    | @lst a xs _ s r =>
      refine ⟨a, xs, rfl, S1.seqL s, fun p np => ?_⟩
      obtain ⟨P3, S3⟩ := S1.lay (o := .lst xs.reverse) np
      exact k _ _ _ _ (P1.trans P3) S3 (.lst (SqL.of upd_same) (RepAll.mono P3.same _ r.reverse))
theorem dt_isB (ha : DT K ta ss mem (.dat (.bl a)) m1) (hb : DT K tb ss m1 (.dat (.bl b)) m2) : DT K (tOp rIsB ta tb) ss mem (.dat (.bl (decide (a = b)))) m2 := dt_op ha hb fun B H al σ v w Q S hv hw k => by
  cases hv
  cases hw
  exact ⟨a, b, rfl, rfl, k _ _ _ _ (Stp.refl _ _ _) S (.bl _)⟩
theorem dt_notB (ha : DT K ta ss mem (.dat (.bl a)) m1) (hb : DT K tb ss m1 (.dat (.bl b)) m2) : DT K (tOp rNotB ta tb) ss mem (.dat (.bl (!decide (a = b)))) m2 := dt_op ha hb fun B H al σ v w Q S hv hw k => by
  cases hv
  cases hw
  exact ⟨a, b, rfl, rfl, k _ _ _ _ (Stp.refl _ _ _) S (.bl _)⟩
end
end DL
namespace DL
open PySem PySem.Spec PyProof.Rows L2
theorem rm1 {k : Nat} {A : Around} (r : Room k A) : A.units + 1 < cLine := by have := r.units; omega
theorem rm2 {k : Nat} {A : Around} (r : Room k A) : A.units + 2 < cLine := by have := r.units; omega
end DL
namespace DL
open PySem PySem.Spec PyProof.Rows L2
theorem pcDinZ {X : Cx} {i o : Expr} {ty td : TE} (P : Program) (w : World) (hu : X.A.units + 1 < cLine) (hi : PE X i ty) (ho : PE X o td) (hP : X.prog = P := by rfl) (hw : X.w = w := by rfl) : PC X .In i o (tDInZ P w ty td) := hP ▸ hw ▸ pc_dinZ hu hi ho
/-- max of a list of ints that is data -/
theorem dt_maxL {K : PySem.W.Frag} {ss : Sl} {mem m1 : List Mc} {te : TE} {ns : List Int} {m : Int} (h : DT K te ss mem (.dat (.lst (ns.map .int))) m1) (inn : m ∈ ns) (most : ∀ y ∈ ns, y ≤ m) : DT K (tCB (rMax K) (tCons te tNil)) ss mem (.dat (.int m)) m1 := fun B H al σ Q S k =>
  h B H al σ _ S fun B1 H1 al1 v P1 S1 r1 => by
    cases r1 with
    | @lst a xs _ s r =>
      cases r.ints
      exact ⟨a, ns, rfl, S1.seqL s, List.length_pos_of_mem inn, fun m' h1 h2 => Int.le_antisymm (most m' h1) (h2 m inn) ▸ k _ _ _ _ P1 S1 (.int _)⟩
end DL
namespace DL
open PySem PySem.Spec PyProof.Rows L2
section
variable {K : PySem.W.Frag} {ss : Sl} {mem m1 : List Mc} {r : Vl}
theorem first_true {p : Nat → Bool} : ∀ n, (List.range n).any p = true → ∃ j, j < n ∧ p j = true ∧ ∀ i, i < j → p i = false
  | 0, h => by simp at h
  | n + 1, h => by
    by_cases q : (List.range n).any p = true
    · obtain ⟨j, a, b, c⟩ := first_true n q
      exact ⟨j, Nat.lt_succ_of_lt a, b, c⟩
    · rw [List.range_succ, List.any_append, Bool.or_eq_true] at h
      refine ⟨n, Nat.lt_succ_self n, by simpa using h.resolve_left q, fun i hi => ?_⟩
      cases z : p i with
      | false => rfl
      | true => exact absurd (List.any_eq_true.mpr ⟨i, List.mem_range.mpr hi, z⟩) q
/-- for x in ..: a turn may answer r; the names ks are left behind -/
theorem ds_search {wi : TI} {k : Nat} {tb : TS} {n : Nat} {it : Nat → D} (ks : List Nat) (f : Sl) (f0 : wipeS ss ks = f) (hi : DI K wi f mem n it m1) (p : Nat → Bool)
    (step : ∀ i, i < n → (p i = true → DS K tb (f.set k (some (.dat (it i)))) m1 (.rt r m1)) ∧ (p i = false → ∃ s', DS K tb (f.set k (some (.dat (it i)))) m1 (.nx s' m1) ∧ wipeS s' ks = f)) :
    DS K (tFor wi (gName k) tb) ss mem (if (List.range n).any p = true then .rt r m1 else .nx f m1) := by
  have go : ∀ j, j ≤ n → (∀ i, i < j → p i = false) → ∀ i, i < j → ∃ ss' ws, DG K (gName k) f (it i) ss' ws ∧ (DS K tb ss' m1 (.nx f m1) ∨ DS K tb ss' m1 (.ct f m1)) := fun j le no i hi => by
    obtain ⟨s', a, b⟩ := (step i (by omega)).2 (no i hi)
    exact ⟨_, _, dg_name, .inl (ds_wipe ks a b)⟩
  refine ds_pre ks f0 ?_
  by_cases q : (List.range n).any p = true
  · obtain ⟨j, lt, yes, no⟩ := first_true n q
    rw [if_pos q]
    exact ds_for hi (fun _ => f) (fun _ => m1) rfl rfl j (Nat.le_of_lt lt) (go j (Nat.le_of_lt lt) no) (.inr ⟨lt, _, _, dg_name, .inl ⟨r, m1, (step j lt).1 yes, rfl⟩⟩)
  · rw [if_neg q]
    refine ds_for hi (fun _ => f) (fun _ => m1) rfl rfl n (Nat.le_refl n) (go n (Nat.le_refl n) fun i hi => ?_) (.inl ⟨rfl, rfl⟩)
    cases z : p i with
    | false => rfl
    | true => exact absurd (List.any_eq_true.mpr ⟨i, List.mem_range.mpr hi, z⟩) q
end
end DL
end
section
set_option Elab.async false
set_option linter.all false
set_option maxRecDepth 100000
/-! two names at once, one or both of them own objects; loops with any target -/
namespace DL
open PySem PySem.Spec PyProof.Rows L2
section
variable {K : PySem.W.Frag} {ss ss1 ss2 : Sl} {mem m1 m2 m3 m4 : List Mc} {ta tb tc te : TE} {i j : Int} {d e : D} {r r' : Vl} {t u : TS} {out : Out}
theorem ds_parV {i j : Nat} {ta : TA} (h : DAV K ta ss mem [r, r'] m1) : DS K (tPar i j ta) ss mem (.nx ((ss.set i (some r)).set j (some r')) m1) := fun B H al σ Dn S k =>
  h B H al σ _ S fun B1 H1 al1 vs P1 S1 r1 => by
    match vs, r1 with
    | [v, w], ⟨r1, r2, _⟩ => exact ⟨v, w, rfl, k _ _ _ P1 _ ((S1.put fun q e => by cases e; exact r1).put fun q e => by cases e; exact r2)⟩
theorem ds_forG {wi : TI} {g : TG} {tb : TS} {n : Nat} {it : Nat → D} (ks : List Nat) (f : Nat → Sl) (m : Nat → List Mc) (f0 : wipeS ss ks = f 0) (hi : DI K wi (f 0) mem n it (m 0)) (hlen : ∀ i, (m i).length = (m (i + 1)).length)
    (ho : ∀ i, ownsUnder (m i).length (f i) = true)
    (step : ∀ i, i < n → ∃ s1 ws s' more, DG K g (f i) (it i) s1 ws ∧ DS K tb s1 (m i) (.nx s' (m (i + 1) ++ more)) ∧ wipeS s' ks = f (i + 1)) : DS K (tFor wi g tb) ss mem (.nx (f n) (m n)) :=
  ds_pre ks f0 (ds_for_all hi f m rfl rfl fun i h => by
    obtain ⟨s1, ws, s', more, dg, a, b⟩ := step i h
    exact ⟨s1, ws, dg, ds_shed ks more a b (ho (i + 1)) (by rw [hlen i]; exact Nat.le_refl _)⟩)
theorem db_is {tt : TT} {b c : Bool} (h : DB K tt ss mem b m1) (e : b = c) : DB K tt ss mem c m1 := e ▸ h
end
end DL
end
section
set_option Elab.async false
set_option linter.all false
set_option maxRecDepth 100000
/-! comprehensions over a dict's own keys -/
namespace DL
open PySem PySem.Spec PyProof.Rows L2
theorem range_get {α : Type} (z : α) (l : List α) : (List.range l.length).map (fun i => l.getD i z) = l := by
  refine List.ext_getElem? fun i => ?_
  rw [List.getElem?_map]
  by_cases h : i < l.length
  · rw [List.getElem?_range h, List.getElem?_eq_getElem h]
    show some (l.getD i z) = _
    rw [List.getD_eq_getElem?_getD, List.getElem?_eq_getElem h]
    rfl
  · rw [List.getElem?_eq_none (by rw [List.length_range]; omega), List.getElem?_eq_none (by omega)]
    rfl
theorem range_filter {α β : Type} (z : α) (q : α → Bool) (g : α → β) (l : List α) : ((List.range l.length).filter fun i => q (l.getD i z)).map (fun i => g (l.getD i z)) = (l.filter q).map g := by
  conv => rhs; rw [← range_get z l]
  rw [List.filter_map, List.map_map]
  rfl
theorem getI_fresh {k : List Int} : ∀ {m : List (List Int × D)}, k ∉ m.map (·.1) → getI m k = none
  | [], _ => rfl
  | p :: m, h => by
    rw [List.map_cons, List.mem_cons, not_or] at h
    show (if p.1 = k then some p.2 else getI m k) = none
    rw [if_neg fun z => h.1 z.symm]
    exact getI_fresh h.2
theorem putI_fresh {k : List Int} {d : D} {m : List (List Int × D)} (h : k ∉ m.map (·.1)) : putI m k d = m ++ [(k, d)] := by
  unfold putI
  rw [getI_fresh h]
  rfl
section
variable {K : PySem.W.Frag} {ss ss1 ss2 : Sl} {mem m1 m2 m3 m4 : List Mc} {ta tb tc te td ty tx tv : TE} {d e : D} {r r' x : Vl} {t u : TS} {out : Out} {k : List Int} {m : List (List Int × D)}
/-- {k: v for k in d if t}, d a dict with keys apart, locked already -/
theorem dt_dcKeys0 {i j : Nat} {tt : TT} (hk : ss[i]? = some (some (.lk m))) (hj : j < ss.length) (nd : (m.map (·.1)).Nodup) (few : m.length < 16777216) (q : List Int × D → Bool) (f : List Int × D → D)
    (step : ∀ p ∈ m, DB K tt ((ss.set j none).set j (some (.dat (rowD p.1)))) mem (q p) mem ∧ (q p = true → DT K tv ((ss.set j none).set j (some (.dat (rowD p.1)))) mem (.dat (f p)) mem)) :
    DT K (tDcT (iKeys (tVar i)) (gName j) tt (tVar j) tv [j]) ss mem (.dat (.dic ((m.filter q).map fun p => (p.1, f p)))) mem := by
  let z : List Int × D := ([], .non)
  let acc : Nat → List (List Int × D) := fun n => ((m.take n).filter q).map fun p => (p.1, f p)
  have whole : acc m.length = (m.filter q).map fun p => (p.1, f p) := by
    show ((m.take m.length).filter q).map _ = _
    rw [List.take_length]
  have accLen : ∀ n, (acc n).length ≤ m.length := fun n => by
    show (((m.take n).filter q).map _).length ≤ _
    rw [List.length_map]
    exact Nat.le_trans (List.length_filter_le _ _) (by rw [List.length_take]; omega)
  have next : ∀ n, n < m.length → acc (n + 1) = acc n ++ if q (m.getD n z) = true then [((m.getD n z).1, f (m.getD n z))] else [] := fun n hn => by
    show ((m.take (n + 1)).filter q).map _ = ((m.take n).filter q).map _ ++ _
    rw [List.take_succ, List.getElem?_eq_getElem hn, List.getD_eq_getElem?_getD, List.getElem?_eq_getElem hn]
    show ((m.take n ++ [m[n]]).filter q).map _ = _
    rw [List.filter_append, List.map_append]
    congr 1
    show ([m[n]].filter q).map _ = if q m[n] = true then _ else _
    by_cases h : q m[n] = true
    · rw [if_pos h, List.filter_cons_of_pos h]
      rfl
    · rw [if_neg h, List.filter_cons_of_neg h]
      rfl
  have fresh : ∀ n, n < m.length → (m.getD n z).1 ∉ (acc n).map (·.1) := fun n hn hmem => by
    have e : (acc n).map (·.1) = ((m.take n).filter q).map (·.1) := by
      show (((m.take n).filter q).map _).map _ = _
      rw [List.map_map]
      rfl
    rw [e] at hmem
    obtain ⟨p, hp, ep⟩ := List.mem_map.mp hmem
    have hp' := (List.mem_filter.mp hp).1
    obtain ⟨j, hj, ej⟩ := List.getElem_of_mem hp'
    have hj' : j < n := by
      rw [List.length_take] at hj
      omega
    rw [List.getElem_take] at ej
    have a : (m.map (·.1))[j]? = some (m.getD n z).1 := by
      rw [List.getElem?_map, List.getElem?_eq_getElem (by omega), ej]
      exact congrArg some ep
    have b : (m.map (·.1))[n]? = some (m.getD n z).1 := by
      rw [List.getElem?_map, List.getElem?_eq_getElem hn, List.getD_eq_getElem?_getD, List.getElem?_eq_getElem hn]
      rfl
    exact absurd (nd_ix nd a b) (by omega)
  rw [← whole]
  refine dt_dc (di_keys hk) acc (fun _ => mem) rfl rfl (fun n hn => Nat.lt_of_le_of_lt (accLen n) few) fun n hn => ?_
  have mm : m.getD n z ∈ m := by
    rw [List.getD_eq_getElem?_getD, List.getElem?_eq_getElem hn]
    exact List.getElem_mem hn
  obtain ⟨s1, s2⟩ := step _ mm
  refine ⟨_, [j], dg_name, fun w hw => hw, ?_⟩
  by_cases h : q (m.getD n z) = true
  · refine .inl ⟨mem, mem, (m.getD n z).1, f (m.getD n z), h ▸ s1, dt_var (List.getElem?_set_self (by show j < (ss.set j none).length; rw [List.length_set]; exact hj)), s2 h, ?_⟩
    rw [next n hn, if_pos h]
    exact (putI_fresh (fresh n hn)).symm
  · rw [Bool.not_eq_true] at h
    refine .inr ⟨h ▸ s1, ?_⟩
    rw [next n hn, h, if_neg Bool.false_ne_true, List.append_nil]
/-- {k: v for k in d if t}, d a dict with keys apart -/
theorem dt_dcKeys {i j : Nat} {tt : TT} (hi : ss[i]? = some (some (.dat (.dic m)))) (nl : NoLk ss) (hj : j < ss.length) (nd : (m.map (·.1)).Nodup) (few : m.length < 16777216) (q : List Int × D → Bool) (f : List Int × D → D)
    (step : ∀ p ∈ m, DB K tt (((ss.set i (some (.lk m))).set j none).set j (some (.dat (rowD p.1)))) mem (q p) mem ∧ (q p = true → DT K tv (((ss.set i (some (.lk m))).set j none).set j (some (.dat (rowD p.1)))) mem (.dat (f p)) mem)) :
    DT K (tLkE (tDcT (iKeys (tVar i)) (gName j) tt (tVar j) tv [j])) ss mem (.dat (.dic ((m.filter q).map fun p => (p.1, f p)))) mem :=
  dt_lk i hi nl (fun _ e => nomatch e) (dt_dcKeys0 (List.getElem?_set_self (List.getElem?_eq_some_iff.mp hi).1) (by rw [List.length_set]; exact hj) nd few q f step)
/-- x = {k: v for k in d if t} -/
theorem ds_dcKeys {i j n : Nat} {tt : TT} (hi : ss[i]? = some (some (.dat (.dic m)))) (nl : NoLk ss) (hj : j < ss.length) (hn : n ≠ i) (nd : (m.map (·.1)).Nodup) (few : m.length < 16777216) (q : List Int × D → Bool) (f : List Int × D → D)
    (step : ∀ p ∈ m, DB K tt (((ss.set i (some (.lk m))).set j none).set j (some (.dat (rowD p.1)))) mem (q p) mem ∧ (q p = true → DT K tv (((ss.set i (some (.lk m))).set j none).set j (some (.dat (rowD p.1)))) mem (.dat (f p)) mem))
    (nl1 : NoLk (((ss.set i (some (.lk m))).set n (some (.dat (.dic ((m.filter q).map fun p => (p.1, f p)))))).set i (some (.dat (.dic m))))) :
    DS K (tLkS (tAsg (tDcT (iKeys (tVar i)) (gName j) tt (tVar j) tv [j]) (gName n))) ss mem (.nx (((ss.set i (some (.lk m))).set n (some (.dat (.dic ((m.filter q).map fun p => (p.1, f p)))))).set i (some (.dat (.dic m)))) mem) := by
  have hil := (List.getElem?_eq_some_iff.mp hi).1
  have hk : (ss.set i (some (.lk m)))[i]? = some (some (.lk m)) := List.getElem?_set_self hil
  exact ds_lkN i hi nl (by rw [List.getElem?_set_ne hn]; exact hk) nl1 (ds_set (dt_dcKeys0 hk (by rw [List.length_set]; exact hj) nd few q f step))
def noLkB : Sl → Bool
  | [] => true
  | some (.lk _) :: _ => false
  | _ :: s => noLkB s
theorem noLk_of : ∀ {s : Sl}, noLkB s = true → NoLk s
  | [], _, i, m, e => by simp at e
  | none :: s, h, 0, m, e => by cases e
  | none :: s, h, i + 1, m, e => noLk_of (s := s) h i m (by simpa using e)
  | some (.lk _) :: s, h, _, m, e => by cases h
  | some (.dat d) :: s, h, 0, m, e => by cases e
  | some (.dat d) :: s, h, i + 1, m, e => noLk_of (s := s) h i m (by simpa using e)
  | some (.tl d) :: s, h, 0, m, e => by cases e
  | some (.tl d) :: s, h, i + 1, m, e => noLk_of (s := s) h i m (by simpa using e)
  | some (.own d) :: s, h, 0, m, e => by cases e
  | some (.own d) :: s, h, i + 1, m, e => noLk_of (s := s) h i m (by simpa using e)
/-- [x for k in d if t], d a dict -/
theorem dt_lcKeys {i j : Nat} {tt : TT} (hi : ss[i]? = some (some (.dat (.dic m)))) (nl : NoLk ss) (few : m.length ≤ 16777216) (q : List Int × D → Bool) (f : List Int × D → D)
    (step : ∀ p ∈ m, DB K tt (((ss.set i (some (.lk m))).set j none).set j (some (.dat (rowD p.1)))) mem (q p) mem ∧ (q p = true → DT K tx (((ss.set i (some (.lk m))).set j none).set j (some (.dat (rowD p.1)))) mem (.dat (f p)) mem)) :
    DT K (tLkE (tLc (iKeys (tVar i)) (gName j) tt tx [j])) ss mem (.dat (.lst ((m.filter q).map f))) mem := by
  have hil : i < ss.length := (List.getElem?_eq_some_iff.mp hi).1
  have hk : (ss.set i (some (.lk m)))[i]? = some (some (.lk m)) := List.getElem?_set_self hil
  let z : List Int × D := ([], .non)
  rw [← range_filter z q f m]
  refine dt_lk i hi nl (fun _ e => nomatch e) (dt_lcIf (di_keys hk) (fun i => f (m.getD i z)) (fun i => q (m.getD i z)) few fun n hn => ?_)
  have mm : m.getD n z ∈ m := by
    rw [List.getD_eq_getElem?_getD, List.getElem?_eq_getElem hn]
    exact List.getElem_mem hn
  obtain ⟨s1, s2⟩ := step _ mm
  exact ⟨_, [j], dg_name, fun w hw => hw, s1, s2⟩
/-! ### list(xs), methods, membership of rows -/
def rListOf (K : PySem.W.Frag) : List V → Hp → VK → Prop := fun xs H Q => ∃ p ys, xs = [V.ref p] ∧ (SqL K H p ys ∨ SqT K H p ys) ∧ ∀ l, H l = none → Q (.ref l) (upd H l (.lst ys))
theorem callListOf {X : Cx} (K : PySem.W.Frag) (h : X.K = K := by rfl) : CallR X (.type "list") (rListOf K) := h ▸ call_list_of
theorem dt_listL {ds : List D} (h : DT K te ss mem (.dat (.lst ds)) m1) : DT K (tCB (rListOf K) (tCons te tNil)) ss mem (.dat (.lst ds)) m1 := fun B H al σ Q S q =>
  h B H al σ _ S fun B1 H1 al1 v P1 S1 r1 => by
    cases r1 with
    | @lst l xs _ s r =>
      refine ⟨l, xs, rfl, .inl (S1.seqL s), fun p np => ?_⟩
      obtain ⟨P2, S2⟩ := S1.lay (o := .lst xs) np
      exact q _ _ _ _ (P1.trans P2) S2 (.lst (SqL.of upd_same) (RepAll.mono P2.same _ r))
/-- .. known to lie in the heap -/
theorem dt_listR {ds : List D} (h : DT K te ss mem (.dat (.lst ds)) m1) : DT K (tCB (rListOf K) (tCons te tNil)) ss mem (.dat (.rls ds)) m1 := fun B H al σ Q S q =>
  h B H al σ _ S fun B1 H1 al1 v P1 S1 r1 => by
    cases r1 with
    | @lst l xs _ s r =>
      refine ⟨l, xs, rfl, .inl (S1.seqL s), fun p np => ?_⟩
      obtain ⟨P2, S2⟩ := S1.lay (o := .lst xs) np
      exact q _ _ _ _ (P1.trans P2) S2 (.rls upd_same (RepAll.mono P2.same _ r))
theorem dt_rls {ds : List D} (h : DT K te ss mem (.dat (.rls ds)) m1) : DT K te ss mem (.dat (.lst ds)) m1 := fun B H al σ Q S q =>
  h B H al σ _ S fun B1 H1 al1 v P1 S1 r1 => by
    cases r1 with
    | rls s r => exact q _ _ _ _ P1 S1 (.lst (SqL.of s) r)
/-- xs + [..], xs a list in the heap -/
theorem dt_catR {ds es : List D} (ha : DT K ta ss mem (.dat (.rls ds)) m1) (hb : DT K tb ss m1 (.tl es) m2) (hl : ds.length + es.length ≤ 16777216) : DT K (tOp rCat ta tb) ss mem (.tl (ds ++ es)) m2 :=
  dt_op ha hb fun B H al σ v w Q S hv hw k => by
    cases hv with
    | @rls a xs _ a2 a3 =>
      obtain ⟨b, ys, rfl, b2, b3⟩ := hw
      refine ⟨a, b, xs, ys, rfl, rfl, S.sub _ _ a2, S.sub _ _ b2, by rw [a3.len, b3.len, sizeLine_eq]; exact hl, fun p np => ?_⟩
      obtain ⟨P, S'⟩ := S.lay (o := .lst (xs ++ ys)) np
      exact k _ _ _ _ P S' ⟨p, _, rfl, upd_same, RepAll.mono P.same _ (a3.append b3)⟩
theorem RepFs.nolook {B : Hp} : ∀ {gs : List (Str × D)} {fs : List (Str × V)} {f : Str}, RepFs K B fs gs → gs.lookup f = none → fs.lookup f = none
  | [], _, _, h, _ => by cases h; rfl
  | (g, x) :: gs, _, f, h, e => by
    cases h with
    | cons h1 h2 =>
      rw [List.lookup_cons] at e ⊢
      cases q : f == g with
      | true =>
        rw [q] at e
        cases e
      | false =>
        rw [q] at e
        exact RepFs.nolook h2 e
/-- o.m(..), all of it data -/
theorem dt_meth {C : Addr} {gs : List (Str × D)} {mn : Str} {n : Nat} {R : List D → D → Prop} {E : XK} {t : TA} {ds : List D} (ho : DT K ta ss mem (.dat (.obj C gs)) m1) (hl : gs.lookup mn = none) (h : DA K t ss m1 ds m2) (hR : R (.obj C gs :: ds) d) (hn : ds.length + 1 = n := by rfl) :
    DT K (tMeth C mn (spP K n R) [] E ta t) ss mem (.dat d) m2 := fun B H al σ Q S q =>
  ho B H al σ _ S fun B1 H1 al1 v P1 S1 rv => by
    have rv' := rv
    cases rv with
    | @obj a _ dx fs _ hb rf =>
      refine ⟨a, dx, fs, rfl, S1.sub _ _ hb, rf.nolook hl, h B1 H1 al1 σ _ S1 fun B2 H2 al2 vs P2 S2 rs => ?_⟩
      refine ⟨B2, [], (D.obj C gs :: ds).map Vl.dat, [], d, [], ⟨D.obj C gs :: ds, rfl, rfl, rfl, hR⟩, by rw [List.length_map]; exact hn, rfl, ?_, fun B' H' v P S' rv => ?_⟩
      · rw [List.append_nil]
        exact pack_slots S2.sub (.cons (Rep.mono P2.same _ rv') rs)
      · obtain ⟨P3, S3⟩ := S2.after P S'.sub
        exact q _ _ _ _ ((P1.trans P2).trans P3) S3 rv
end
theorem eqv_ints : ∀ r q : List Int, PyData.eqvAll (D.pyAll (r.map .int)) (D.pyAll (q.map .int)) = decide (r = q)
  | [], [] => by simp [D.pyAll, PyData.eqvAll]
  | [], _ :: _ => by simp [D.pyAll, PyData.eqvAll]
  | _ :: _, [] => by simp [D.pyAll, PyData.eqvAll]
  | a :: r, b :: q => by
    show PyData.eqvAll ((D.int a).py :: D.pyAll (r.map .int)) ((D.int b).py :: D.pyAll (q.map .int)) = _
    rw [PyData.eqvAll, eqv_ints r q]
    by_cases h : a = b
    · by_cases g : r = q
      · simp [D.py, PyData.eqv, h, g]
      · simp [D.py, PyData.eqv, h, g]
    · simp [D.py, PyData.eqv, h]
theorem eqv_row (r q : List Int) : PyData.eqv (rowD r).py (rowD q).py = decide (r = q) := by
  show PyData.eqv (.tuple (D.pyAll (r.map .int))) (.tuple (D.pyAll (q.map .int))) = _
  rw [PyData.eqv]
  exact eqv_ints r q
theorem rows_any (k : List Int) : ∀ rows : List (List Int), ((D.pyAll (rows.map rowD)).any fun z => PyData.eqv z (rowD k).py) = decide (k ∈ rows)
  | [] => by simp [D.pyAll]
  | r :: rows => by
    show (PyData.eqv (rowD r).py (rowD k).py || (D.pyAll (rows.map rowD)).any fun z => PyData.eqv z (rowD k).py) = _
    rw [rows_any k rows, eqv_row]
    by_cases h : r = k
    · simp [h]
    · have h' : ¬ k = r := fun z => h z.symm
      simp [h, h']
theorem flat_row (k : List Int) (n : Nat) : D.flat (n + 1) (rowD k) = true := by
  show D.flatAll n (k.map .int) = true
  induction k with
  | nil => cases n <;> rfl
  | cons a k ih =>
    show (D.flat n (.int a) && D.flatAll n (k.map .int)) = true
    rw [ih]
    cases n <;> rfl
theorem flat_rows (rows : List (List Int)) (n : Nat) : D.flat (n + 2) (.lst (rows.map rowD)) = true := by
  show D.flatAll (n + 1) (rows.map rowD) = true
  induction rows with
  | nil => rfl
  | cons r rows ih =>
    show (D.flat (n + 1) (rowD r) && D.flatAll (n + 1) (rows.map rowD)) = true
    rw [ih, flat_row]
    rfl
end DL
end
section
set_option Elab.async false
set_option linter.all false
set_option maxRecDepth 100000
/-! == of two objects by their own __eq__, where it holds -/
namespace DL
open PySem PySem.Spec PyProof.Rows L2
/-- what is asked of two objects: data on which the own == answers True -/
def EqSays (K : PySem.W.Frag) (R : List D → D → Prop) : Addr → Addr → Hp → Prop := fun a b H => ∃ B d e, Same B H ∧ Rep K B (.ref a) d ∧ Rep K B (.ref b) e ∧ R [d, e] (.bl true)
abbrev rEqOwn (K : PySem.W.Frag) (C : Addr) (R : List D → D → Prop) : R2 := rEqG (DIns C (EqSays K R))
theorem opEqOwn {X : Cx} (K : PySem.W.Frag) {C f : Addr} {fd : FuncData} {ps : List Str} {n : Nat} {R : List D → D → Prop} (F : FnOk X.prog X.w X.K X.mg X.base CX0 n f fd ps (spP K 2 R)) (me : Meth X.K C "__eq__" f) (hb : Binds X.K fd ps []) (hr : Room n X.A) (hK : X.K = K := by rfl) :
    OpR X (compareOp .Eq) (rEqOwn K C R) := by
  subst hK
  refine op_eqG (rcG_ins (E := E0) (FnOk.imp F fun vs H Q E q => ?_) me.at_ me.fn hb pass0) hr
  obtain ⟨a, b, rfl, ⟨B, d, e, sub, r1, r2, hR⟩, fin⟩ := q
  refine ⟨B, [], [.dat d, .dat e], [], .bl true, [], ⟨[d, e], rfl, rfl, rfl, hR⟩, rfl, rfl, pack_slots (ds := [d, e]) sub (.cons r1 (.cons r2 .nil)), fun B' H' v P S rv => ?_⟩
  cases rv
  exact fin H' fun c o h => P.frame c o h (List.not_mem_nil)
section
variable {K : PySem.W.Frag} {ss : Sl} {mem m1 m2 : List Mc} {ta tb : TE}
/-- a heap that only grew -/
theorem Sit.grown {B H H' : Hp} {al : List Addr} {σ : L2.St} (S : Sit K B H al σ ss mem) (e : Ext H H') : Stp B H al B H' al ∧ Sit K B H' al σ ss mem := by
  have st : ∀ b, H b ≠ none → H' b ≠ none := fun b h => by
    obtain ⟨o, ho⟩ := Option.ne_none_iff_exists'.mp h
    rw [e b o ho]
    exact fun z => nomatch z
  refine ⟨⟨Same.refl B, fun b o h _ => e b o h, fun b h => .inl h, st, [], by rw [List.append_nil], fun _ h => by cases h⟩, fun b o h => e _ _ (S.sub b o h), S.len, S.slot, S.mlen, fun n a m h1 h2 => ?_, S.nd, fun a h => st a (S.there a h)⟩
  obtain ⟨o, ho⟩ := Option.ne_none_iff_exists'.mp (S.there a (List.mem_of_getElem? h1))
  exact McOk.frame ((e _ _ ho).trans ho.symm) (S.mem n a m h1 h2)
theorem dt_eqOwn {C : Addr} {gs hs : List (Str × D)} {R : List D → D → Prop} (ha : DT K ta ss mem (.dat (.obj C gs)) m1) (hb : DT K tb ss m1 (.dat (.obj C hs)) m2) (hR : R [.obj C gs, .obj C hs] (.bl true)) : DT K (tOp (rEqOwn K C R) ta tb) ss mem (.dat (.bl true)) m2 :=
  dt_op ha hb fun B H al σ v w Q S hv hw k => by
    have hv' := hv
    have hw' := hw
    cases hv with
    | @obj a _ dx fs _ ea _ =>
      cases hw with
      | @obj b _ dy gs _ eb _ =>
        refine ⟨⟨a, b, dx, dy, fs, gs, rfl, rfl, S.sub _ _ ea, S.sub _ _ eb, B, _, _, S.sub, hv', hw', hR⟩, fun H' e => ?_⟩
        obtain ⟨P2, S2⟩ := S.grown e
        exact k _ _ _ _ P2 S2 (.bl true)
end
theorem callDictPr {X : Cx} (K : PySem.W.Frag) (hc : X.calm = true) (hu : X.A.units + 2 < cLine) (h : X.K = K := by rfl) : CallR X (.type "dict") (rDictPrT K) := h ▸ call_dictPrT hc hu
theorem crMin {X : Cx} (K : PySem.W.Frag) (hc : X.calm = true := by rfl) (h : X.K = K := by rfl) : CallR X (.builtin "min") (rMin K) := h ▸ cr_min hc
/-! ### loops and comprehensions over a list, said by its items -/
theorem getD_in {α : Type} {l : List α} {i : Nat} (h : i < l.length) (z : α) : l.getD i z ∈ l := by
  rw [List.getD_eq_getElem?_getD, List.getElem?_eq_getElem h]
  exact List.getElem_mem h
theorem nthD_map {α : Type} (g : α → D) {l : List α} {i : Nat} (h : i < l.length) (z : α) : nthD (l.map g) i = g (l.getD i z) := by
  have e : (l.map g)[i]? = some (nthD (l.map g) i) := nthD_get (by rw [List.length_map]; exact h)
  rw [List.getElem?_map, List.getElem?_eq_getElem h] at e
  rw [List.getD_eq_getElem?_getD, List.getElem?_eq_getElem h]
  exact (Option.some.inj e).symm
theorem range_any {α : Type} (z : α) (q : α → Bool) (l : List α) : (List.range l.length).any (fun i => q (l.getD i z)) = l.any q := by
  conv => rhs; rw [← range_get z l]
  rw [List.any_map]
  rfl
section
variable {K : PySem.W.Frag} {ss ss1 ss2 f : Sl} {mem m1 m2 : List Mc} {ta tb te tx : TE} {r : Vl}
theorem di_map {α : Type} (g : α → D) (l : List α) (h : DT K te ss mem (.dat (.lst (l.map g))) m1) : DI K (iList K te) ss mem l.length (nthD (l.map g)) m1 := by
  have d := di_list h
  rw [List.length_map] at d
  exact d
/-- a for over a list that may answer in a turn -/
theorem ds_searchL {α : Type} {tb : TS} (g : α → D) (z : α) (l : List α) {k : Nat} (ks : List Nat) (f0 : wipeS ss ks = f) (h : DT K te f mem (.dat (.lst (l.map g))) m1) (q : α → Bool)
    (step : ∀ x ∈ l, (q x = true → DS K tb (f.set k (some (.dat (g x)))) m1 (.rt r m1)) ∧ (q x = false → ∃ s', DS K tb (f.set k (some (.dat (g x)))) m1 (.nx s' m1) ∧ wipeS s' ks = f)) :
    DS K (tFor (iList K te) (gName k) tb) ss mem (if l.any q = true then .rt r m1 else .nx f m1) := by
  rw [← range_any z q l]
  refine ds_search ks f f0 (di_map g l h) (fun i => q (l.getD i z)) fun i hi => ?_
  rw [nthD_map g hi z]
  exact step _ (getD_in hi z)
/-- [e for x in xs] -/
theorem dt_lcL {α : Type} (g : α → D) (z : α) (l : List α) {j : Nat} (h : DT K te ss mem (.dat (.lst (l.map g))) m1) (few : l.length ≤ 16777216) (v : α → D)
    (step : ∀ x ∈ l, DT K tx ((ss.set j none).set j (some (.dat (g x)))) m1 (.dat (v x)) m1) : DT K (tLc (iList K te) (gName j) tYes tx [j]) ss mem (.dat (.lst (l.map v))) m1 := by
  have e : l.map v = (List.range l.length).map fun i => v (l.getD i z) := by
    conv => lhs; rw [← range_get z l]
    rw [List.map_map]
    rfl
  rw [e]
  refine dt_lcMap (di_map g l h) _ few fun i hi => ⟨_, [j], dg_name, fun w hw => hw, ?_⟩
  rw [nthD_map g hi z]
  exact step _ (getD_in hi z)
/-- [e for x in xs], to be put together with another list -/
theorem dt_lcLT {α : Type} (g : α → D) (z : α) (l : List α) {j : Nat} (h : DT K te ss mem (.dat (.lst (l.map g))) m1) (few : l.length ≤ 16777216) (v : α → D)
    (step : ∀ x ∈ l, DT K tx ((ss.set j none).set j (some (.dat (g x)))) m1 (.dat (v x)) m1) : DT K (tLc (iList K te) (gName j) tYes tx [j]) ss mem (.tl (l.map v)) m1 := by
  have e : l.map v = (List.range l.length).map fun i => v (l.getD i z) := by
    conv => lhs; rw [← range_get z l]
    rw [List.map_map]
    rfl
  rw [e]
  refine dt_lcMapT (di_map g l h) _ few fun i hi => ⟨_, [j], dg_name, fun w hw => hw, ?_⟩
  rw [nthD_map g hi z]
  exact step _ (getD_in hi z)
/-- [x for x in xs if t] -/
theorem dt_lcFL {α : Type} (g : α → D) (z : α) (l : List α) {j : Nat} {tt : TT} (h : DT K te ss mem (.dat (.lst (l.map g))) m1) (few : l.length ≤ 16777216) (q : α → Bool) (v : α → D)
    (step : ∀ x ∈ l, DB K tt ((ss.set j none).set j (some (.dat (g x)))) m1 (q x) m1 ∧ (q x = true → DT K tx ((ss.set j none).set j (some (.dat (g x)))) m1 (.dat (v x)) m1)) : DT K (tLc (iList K te) (gName j) tt tx [j]) ss mem (.dat (.lst ((l.filter q).map v))) m1 := by
  rw [← range_filter z q v l]
  refine dt_lcIf (di_map g l h) (fun i => v (l.getD i z)) (fun i => q (l.getD i z)) few fun i hi => ?_
  rw [nthD_map g hi z]
  obtain ⟨a, b⟩ := step _ (getD_in hi z)
  exact ⟨_, [j], dg_name, fun w hw => hw, a, b⟩
theorem dt_allL {α : Type} (g : α → D) (z : α) (l : List α) {j : Nat} (h : DT K te ss mem (.dat (.lst (l.map g))) m1) (few : l.length ≤ 16777216) (q : α → Bool)
    (step : ∀ x ∈ l, DT K tx ((ss.set j none).set j (some (.dat (g x)))) m1 (.dat (.bl (q x))) m1) : DT K (tCB (rAll K) (tCons (tLc (iList K te) (gName j) tYes tx [j]) tNil)) ss mem (.dat (.bl (l.all q))) m1 := by
  have e : l.all q = (l.map q).all id := by rw [List.all_map]; rfl
  rw [e]
  refine dt_all ?_
  have a := dt_lcL (tx := tx) g z l h few (fun x => .bl (q x)) step
  rw [show (l.map fun x => D.bl (q x)) = (l.map q).map D.bl by rw [List.map_map]; rfl] at a
  exact a
theorem dt_anyL {α : Type} (g : α → D) (z : α) (l : List α) {j : Nat} (h : DT K te ss mem (.dat (.lst (l.map g))) m1) (few : l.length ≤ 16777216) (q : α → Bool)
    (step : ∀ x ∈ l, DT K tx ((ss.set j none).set j (some (.dat (g x)))) m1 (.dat (.bl (q x))) m1) : DT K (tCB (rAny K) (tCons (tLc (iList K te) (gName j) tYes tx [j]) tNil)) ss mem (.dat (.bl (l.any q))) m1 := by
  have e : l.any q = (l.map q).any id := by rw [List.any_map]; rfl
  rw [e]
  refine dt_any ?_
  have a := dt_lcL (tx := tx) g z l h few (fun x => .bl (q x)) step
  rw [show (l.map fun x => D.bl (q x)) = (l.map q).map D.bl by rw [List.map_map]; rfl] at a
  exact a
/-- a for over a dict's keys that may answer in a turn -/
theorem ds_searchKeys {i k : Nat} {tb : TS} {m : List (List Int × D)} {fl : Sl} (ks : List Nat) (hi : ss[i]? = some (some (.dat (.dic m)))) (nl : NoLk ss) (f0 : wipeS (ss.set i (some (.lk m))) ks = fl) (hk : fl[i]? = some (some (.lk m))) (nl1 : NoLk (fl.set i (some (.dat (.dic m))))) (hr : ∀ m', r ≠ .lk m') (q : List Int × D → Bool)
    (step : ∀ p ∈ m, (q p = true → DS K tb (fl.set k (some (.dat (rowD p.1)))) mem (.rt r mem)) ∧ (q p = false → ∃ s', DS K tb (fl.set k (some (.dat (rowD p.1)))) mem (.nx s' mem) ∧ wipeS s' ks = fl)) :
    DS K (tLkS (tFor (iKeys (tVar i)) (gName k) tb)) ss mem (if m.any q = true then .rt r mem else .nx (fl.set i (some (.dat (.dic m)))) mem) := by
  let z : List Int × D := ([], .non)
  have s := ds_search (K := K) (tb := tb) (k := k) (ss := ss.set i (some (.lk m))) (r := r) ks fl f0 (di_keys hk) (fun i => q (m.getD i z)) fun i hi => step _ (getD_in hi z)
  rw [range_any z q m] at s
  by_cases h : m.any q = true
  · rw [if_pos h] at s ⊢
    exact ds_lkR i hi nl hr s
  · rw [if_neg h] at s ⊢
    exact ds_lkN i hi nl hk nl1 s
/-- all(.. for k in d), d a dict -/
theorem dt_allKeys {i j : Nat} {m : List (List Int × D)} (hi : ss[i]? = some (some (.dat (.dic m)))) (nl : NoLk ss) (few : m.length ≤ 16777216) (q : List Int × D → Bool)
    (step : ∀ p ∈ m, DT K tx (((ss.set i (some (.lk m))).set j none).set j (some (.dat (rowD p.1)))) mem (.dat (.bl (q p))) mem) : DT K (tCB (rAll K) (tCons (tLkE (tLc (iKeys (tVar i)) (gName j) tYes tx [j])) tNil)) ss mem (.dat (.bl (m.all q))) mem := by
  have e : m.all q = (m.map q).all id := by rw [List.all_map]; rfl
  rw [e]
  refine dt_all ?_
  have a := dt_lcKeys (K := K) (tt := tYes) (tx := tx) (j := j) hi nl few (fun _ => true) (fun p => .bl (q p)) fun p hp => ⟨db_yes, fun _ => step p hp⟩
  rw [List.filter_eq_self.mpr fun _ _ => rfl, show (m.map fun p => D.bl (q p)) = (m.map q).map D.bl by rw [List.map_map]; rfl] at a
  exact a
theorem dt_minL {ns : List Int} {m : Int} (h : DT K te ss mem (.dat (.lst (ns.map .int))) m1) (inn : m ∈ ns) (least : ∀ y ∈ ns, m ≤ y) : DT K (tCB (rMin K) (tCons te tNil)) ss mem (.dat (.int m)) m1 := fun B H al σ Q S k =>
  h B H al σ _ S fun B1 H1 al1 v P1 S1 r1 => by
    cases r1 with
    | @lst a xs _ s r =>
      cases r.ints
      refine ⟨a, ns, rfl, S1.seqL s, List.length_pos_of_mem inn, fun m' h1 h2 => ?_⟩
      have e : m = m' := Int.le_antisymm (least m' h1) (h2 m inn)
      rw [← e]
      exact k _ _ _ _ P1 S1 (.int _)
end
end DL
end
section
set_option Elab.async false
set_option linter.all false
set_option maxRecDepth 100000
/-! list(x), x whatever can be walked: it begins empty and is extended -/
namespace DL
open PySem PySem.Spec PyProof.Rows L2
section
variable {prog : Program} {w : World} {A : Around} {E : Value → Shared → Prop} {s : Shared}
abbrev emptyL (c : Nat) : Obj := { cls := .type "list", dict := none, data := .seq #[] c, slots := #[] }
/-- how the built-in ends: with the new list -/
abbrev fin1 (Q : Value → Shared → Prop) (E : Value → Shared → Prop) (l : Addr) : Result → Shared → Prop := wants (fun r t => r = .none ∧ Q (.ref l) t) E
theorem list_by {x : Value} {Q : Value → Shared → Prop}
    (ext : ∀ h c, h.get? s.heap.objs.size = some (emptyL c) → (∀ b o, s.heap.get? b = some o → h.get? b = some o) →
      wpAny (model prog w) A.in1.in1 (Builtin.List.listExtendWith (.ref s.heap.objs.size) x .none)
        (fun fin t => match fin with | .done f => fin1 Q E s.heap.objs.size (.ok f) t | .again c' => c'.quiet = true ∧ codeAny (model prog w) A.in1 c' (fin1 Q E s.heap.objs.size) t)
        (fun e t => fin1 Q E s.heap.objs.size (.error e) t) { s with heap := h }) : wpAny (model prog w) A (call (.type "list") [x]) Q E s := by
  refine callType_codes (Q₁ := fun o t => o = .ref s.heap.objs.size ∧ t = { s with heap := s.heap.push (emptyL 0) }) F.called_list (F.typeCall_list_1 _) F.entry_list_init (code_list_new _ ⟨rfl, rfl⟩) ?_
  rintro _ _ ⟨rfl, rfl⟩
  have new : (s.heap.push (emptyL 0)).get? s.heap.objs.size = some (emptyL 0) := Heap.get?_push_size _ rfl
  have old : ∀ b o, s.heap.get? b = some o → (s.heap.push (emptyL 0)).get? b = some o := fun _ _ => Heap.get?_push_of_some _
  generalize s.heap.push (emptyL 0) = h0 at new old ⊢
  have still : ∀ b o, s.heap.get? b = some o → (h0.update s.heap.objs.size (Obj.mapSeq fun _ => #[])).get? b = some o := fun b o e => (Heap.get?_update_other _ _ (Nat.ne_of_gt (Heap.lt_size e))).trans (old b o e)
  refine ⟨⟨emptyL 0, new, rfl⟩, F.args_list_init_2 _ _, ?_⟩
  change wpAny _ _ (Builtin.List.listItems (.ref s.heap.objs.size) >>= fun was => Builtin.List.listUpdate (.ref s.heap.objs.size) (fun _ => #[]) >>= fun _ => letGo was.toList.reverse >>= fun _ => Builtin.List.listExtendWith (.ref s.heap.objs.size) x .none) _ _ _
  unfold Builtin.List.listItems
  refine wpAny_bind (wpAny_bind (wpAny_seqItems new rfl (wpAny_pure ?_)))
  exact wpAny_bind (wpAny_updateSeq new rfl (wpAny_bind (wpAny_letGo (ext _ _ (Heap.get?_update_self _ new rfl) still))))
end
section
variable {X : Cx}
/-- list(d.items()): a new list of new pairs -/
def rListIt : List V → Hp → VK → Prop := fun xs H Q => ∃ (p a : Addr) (kvs : List (List L2.Key × V)), xs = [.ref p] ∧ H p = some (L2.DX.itemsO p a) ∧ Rd H a (.dT kvs) ∧
  ∀ (H' : Hp) (l : Addr) (ts : List Addr), (∀ b o, H b = some o → H' b = some o) → H l = none → (∀ t ∈ ts, H t = none) → l ∉ ts → ts.Nodup → ts.length = kvs.length → H' l = some (.lst (ts.map V.ref)) →
    (∀ (j : Nat) t, ts[j]? = some t → ∃ k v b, kvs[j]? = some (k, v) ∧ H' t = some (.tup [.ref b, v]) ∧ H b = some (.tup (k.map kV))) → Q (.ref l) H'
theorem call_listIt (hc : X.calm = true) : CallR X (.type "list") rListIt := by
  rintro pins s σ H _ us Q I rel ⟨p, a, kvs, rfl, hp, ha, fin⟩
  obtain ⟨_, rfl, ru⟩ := rel.one
  cases ru
  have view : s.heap.IsItemsView p a := (show ObjOk X.prog X.w H s.heap p (L2.DX.itemsO p a) from I.hok p _ hp).1
  obtain ⟨few, -, xs, kt, o, es, ep, at_, ex, dat, ents, -, -⟩ := dt_rd I.hok ha
  have lx : xs.length = kvs.length := (Paired.length kt).symm
  have le : es.size = xs.length := size_of_entries ents
  refine list_by fun h c new kept => ?_
  have pS : s.heap.objs.size ≠ p := fun z => by
    obtain ⟨o, ho, -⟩ := view
    exact Nat.lt_irrefl _ (z ▸ Heap.lt_size ho)
  have aS : a ≠ s.heap.objs.size := fun z => Nat.lt_irrefl _ (z ▸ Heap.lt_size at_)
  refine DT.extI (A := X.A.in1) (s := { s with heap := h }) (es := es) (ep := ep) (I.ok.hd hc) (let ⟨o, ho, hx⟩ := view; ⟨o, kept _ _ ho, hx⟩) ⟨o, kept _ _ at_, ex, dat⟩ s.heap.objs.size pS aS .none c new (fun h' tk acc c' as keep now la made ea => ?_) (by omega)
  refine ⟨rfl, ?_⟩
  have all : ∀ b u, s.heap.get? b = some u → h'.get? b = some u := fun b u e => keep b u (Nat.ne_of_lt (Heap.lt_size e)) (kept b u e)
  have hl0 : s.heap.objs.size < h.objs.size := Heap.lt_size new
  have low : ∀ t ∈ as, s.heap.objs.size < t := fun t ht => Nat.lt_trans hl0 (made.above t ht)
  have nd : as.Nodup := List.Pairwise.imp (fun h => Nat.ne_of_lt h) made.rise
  have lak : as.length = kvs.length := by omega
  have nS : H s.heap.objs.size = none := I.hok.fresh (Nat.le_refl _)
  have nT : ∀ t ∈ as, H t = none := fun t ht => I.hok.fresh (Nat.le_of_lt (low t ht))
  have refs : ∀ l : List Addr, Vals (l.map V.ref) (l.map Value.ref) := fun l => by
    induction l with
    | nil => exact .nil
    | cons x l ih => exact .cons rfl ih
  have I1 : Inv X pins σ (upd H s.heap.objs.size (.lst (as.map V.ref))) { s with heap := h', toks := tk } :=
    I.laid (t' := tk) all (Nat.le_refl _) ⟨by rw [List.length_map]; omega, acc.toList, c', by rw [ea]; exact refs as, by rw [Array.toArray_toList]; exact now⟩
  -- the pairs that were made
  have pr : ∀ (j : Nat) (t : Addr), as[j]? = some t → ∃ k v b u, kvs[j]? = some (k, v) ∧ H b = some (.tup (k.map kV)) ∧ RelV v u ∧ h'.get? t = some { cls := .type "tuple", data := .seq #[Value.ref b, u] } := fun j t ht => by
    obtain ⟨en, he, hg⟩ := made.pairs j t ht
    rw [entry_at ents j] at he
    obtain ⟨x, hx, rfl⟩ := Option.map_eq_some_iff.mp he
    obtain ⟨⟨k, v⟩, hk, r1, r2, r3⟩ := L2.DX.pget kt hx
    exact ⟨k, v, x.2.1, x.2.2, hk, r2, r3, hg⟩
  obtain ⟨H2, I2, g, qt⟩ := L2.DX.takeT (P := fun t vs => ∃ (j : Nat) (k : List L2.Key) (v : V) (b : Addr), as[j]? = some t ∧ kvs[j]? = some (k, v) ∧ vs = [.ref b, v] ∧ H b = some (.tup (k.map kV))) I as _ I1 nd fun t ht => by
    obtain ⟨j, hj⟩ := List.mem_iff_getElem?.mp ht
    obtain ⟨k, v, b, u, hk, hb, rv, hg⟩ := pr j t hj
    refine ⟨Nat.le_of_lt (low t ht), by rw [upd_ne (Nat.ne_of_gt (low t ht))]; exact nT t ht, [.ref b, v], ⟨j, k, v, b, hj, hk, rfl, hb⟩, fun H3 => ⟨by rw [sizeLine_eq]; show 2 ≤ 16777216; omega, [Value.ref b, u], .cons rfl (.cons rv .nil), ⟨_, hg, rfl, 0, rfl⟩⟩⟩
  have gr : ∀ b u, H b = some u → H2 b = some u := fun b u e => g b u (by rw [upd_ne (ne_of_none e nS)]; exact e)
  refine ⟨.ref s.heap.objs.size, H2, I2, rfl, fin H2 _ as gr nS nT (fun z => Nat.lt_irrefl _ (low _ z)) nd lak (g _ _ upd_same) fun j t ht => ?_⟩
  obtain ⟨vs, ⟨i, k, v, b, hi, hk, ev, hb⟩, hH⟩ := qt t (List.mem_of_getElem? ht)
  have eij : i = j := (List.getElem?_inj (List.getElem?_eq_some_iff.mp hi).1 nd).mp (hi.trans ht.symm)
  subst eij
  rw [ev] at hH
  exact ⟨k, v, b, hk, hH, hb⟩
/-- d.items(), d read alone -/
def tItemsR (te : TE) : TE := fun σ H Q => te σ H fun x H1 => ∃ (a : Addr) (kvs : List (List L2.Key × V)), x = .ref a ∧ Rd H1 a (.dT kvs) ∧ ∀ p, H1 p = none → Q (.ref p) (upd H1 p (L2.DX.itemsO p a))
theorem pe_itemsR {e : Expr} {te : TE} {apos cpos : Pos} (he : PE X e te) (hbase : attributeBase e "items" X.env (eval e X.env) = eval e X.env := by rfl) (hline : (apos.endLine == cpos.line) = true := by rfl) :
    PE X (.Call (.Attribute e "items" apos) [] [] cpos) (tItemsR te) := ⟨fun pins s σ H Q I q => wpAny_Call_method0_late hbase hline (thn (he.run pins s σ H _ I q) fun v s1 got => by
  obtain ⟨x, H1, I1, rx, a, kvs, rfl, rd, fin⟩ := got
  cases rx
  obtain ⟨-, low, -, -, o, es, ep, at_, ex, dat, -, -, -⟩ := dt_rd I1.hok rd
  have new := I1.hok.fresh (Nat.le_refl _)
  refine ⟨"dict", "dict.items", F.plainAttrs_dict, F.slot_dict_items, F.type_dict_items, ⟨o, at_, ex.1⟩, fun b z => ?_, Calls.callWith_builtin rfl (PySem.evalArgs_none (DT.callItems (es := es) (ep := ep) low ⟨o, at_, ex, dat⟩ ⟨.ref s1.heap.objs.size, _, I1.laid (t' := s1.toks) (fun b u e => Heap.get?_push_of_some _ e) (Nat.le_refl _) (L2.DX.itemsO_ok (Heap.get?_push_size _ rfl)), rfl, fin _ new⟩))⟩
  cases z
  exact ⟨o, at_, ex.2.1⟩)⟩
end
end DL
end
section
set_option Elab.async false
set_option linter.all false
set_option maxRecDepth 100000
/-! list(d.items()), said of data -/
namespace DL
open PySem PySem.Spec PyProof.Rows L2
section
variable {K : PySem.W.Frag} {ss : Sl} {mem m1 m2 : List Mc} {td te : TE} {x : Vl} {m : List (List Int × D)}
/-- objects that are laid all at once, as data -/
theorem Sit.layAll {B H H' : Hp} {al : List Addr} {σ : L2.St} (S : Sit K B H al σ ss mem) (gr : ∀ b o, H b = some o → H' b = some o) : ∀ (ls : List (Addr × HO)), (∀ p ∈ ls, H p.1 = none ∧ H' p.1 = some p.2) →
    ∃ B', Stp B H al B' H' al ∧ Sit K B' H' al σ ss mem ∧ ∀ p ∈ ls, B' p.1 = some p.2
  | [], _ => by
    have st : ∀ b, H b ≠ none → H' b ≠ none := fun b h => by
      obtain ⟨o, ho⟩ := Option.ne_none_iff_exists'.mp h
      rw [gr b o ho]
      exact fun z => nomatch z
    obtain ⟨P, S'⟩ := S.grown (H' := H') gr
    exact ⟨B, P, S', fun p h => by cases h⟩
  | p :: ls, h => by
    obtain ⟨B1, P1, S1, at1⟩ := Sit.layAll S gr ls fun q hq => h q (List.mem_cons_of_mem _ hq)
    obtain ⟨hn, hp⟩ := h p List.mem_cons_self
    rcases Option.eq_none_or_eq_some (B1 p.1) with nb | ⟨o, eb⟩
    · have sB : Same B1 (upd B1 p.1 p.2) := fun c u e => by rw [upd_ne (ne_of_none e nb)]; exact e
      have nal : p.1 ∉ al := fun z => S.there _ z hn
      refine ⟨upd B1 p.1 p.2, ⟨P1.same.trans sB, P1.frame, fun c z => ?_, P1.stay, P1.ext⟩, ⟨fun c u e => ?_, S1.len, fun i r e => ?_, S1.mlen, fun n c q e1 e2 => ?_, S1.nd, S1.there⟩, fun q hq => ?_⟩
      · by_cases e : c = p.1
        · exact .inr (.inl (e ▸ hn))
        · rw [upd_ne e] at z
          exact P1.fresh c z
      · by_cases z : c = p.1
        · subst z
          rw [upd_same] at e
          exact hp.trans e
        · rw [upd_ne z] at e
          exact S1.sub c u e
      · obtain ⟨v, h1, h2⟩ := S1.slot i r e
        refine ⟨v, h1, ?_⟩
        cases r with
        | dat d => exact Rep.mono sB d h2
        | own n => exact h2
        | tl ds => exact h2.imp fun a z => z.imp fun xs y => ⟨y.1, sB _ _ y.2.1, RepAll.mono sB ds y.2.2⟩
        | lk ds =>
          obtain ⟨a, o', kvs, z1, z2, z3⟩ := h2
          exact ⟨a, o', kvs, z1, sB _ _ z2, RepKv.mono sB ds z3⟩
      · exact (S1.mem n c q e1 e2).grow sB (upd_ne fun z => nal (z ▸ List.mem_of_getElem? e1))
      · by_cases e : q.1 = p.1
        · rcases List.mem_cons.mp hq with z | z
          · rw [z, upd_same]
          · have := at1 q z
            rw [e, nb] at this
            cases this
        · rw [upd_ne e]
          rcases List.mem_cons.mp hq with z | z
          · exact absurd (by rw [z]) e
          · exact at1 q z
    · refine ⟨B1, P1, S1, fun q hq => ?_⟩
      rcases List.mem_cons.mp hq with z | z
      · rw [z, eb]
        have := S1.sub _ _ eb
        rw [hp] at this
        exact this.symm
      · exact at1 q z
theorem dt_listIt (hd : DT K td ss mem x m1) (hm : IsDic m1 x m) : DT K (tCB rListIt (tCons (tItemsR td) tNil)) ss mem (.dat (.rls (m.map pairD))) m1 := fun B H al σ Q S q =>
  hd B H al σ _ S fun B1 H1 al1 v P1 S1 r1 => by
    obtain ⟨a, kvs, rfl, rd, rk⟩ := dic_at S1 r1 hm
    refine ⟨a, kvs, rfl, rd, fun p np => ?_⟩
    have g0 : ∀ b o, H1 b = some o → upd H1 p (L2.DX.itemsO p a) b = some o := fun b o e => by rw [upd_ne (ne_of_none e np)]; exact e
    obtain ⟨P2, S2⟩ := S1.grown (H' := upd H1 p (L2.DX.itemsO p a)) g0
    refine ⟨p, a, kvs, rfl, upd_same, ?_, fun H' l ts gr nl nts lts nd len el et => ?_⟩
    · rcases rd with rd | ⟨o, rd⟩
      · exact .inl (g0 _ _ rd)
      · exact .inr ⟨o, g0 _ _ rd⟩
    have pick : ∀ t ∈ ts, ∃ o, H' t = some o := fun t ht => by
      obtain ⟨j, hj⟩ := List.mem_iff_getElem?.mp ht
      obtain ⟨k, v, b, -, h, -⟩ := et j t hj
      exact ⟨_, h⟩
    obtain ⟨B3, P3, S3, at3⟩ := S2.layAll gr ((l, .lst (ts.map V.ref)) :: ts.map fun t => (t, (H' t).getD (.lst []))) fun z hz => by
      rcases List.mem_cons.mp hz with e | e
      · rw [e]
        exact ⟨nl, el⟩
      · obtain ⟨t, ht, rfl⟩ := List.mem_map.mp e
        obtain ⟨o, ho⟩ := pick t ht
        exact ⟨nts t ht, by show H' t = some ((H' t).getD _); rw [ho]; rfl⟩
    -- the key tuples
    have keys : ∀ (m : List (List Int × D)) (kvs : List (List L2.Key × V)) (ts : List Addr) (B : Hp), Same B H' → RepKv K B kvs m → ts.length = kvs.length → (∀ (j : Nat) t, ts[j]? = some t → ∃ k v b, kvs[j]? = some (k, v) ∧ B t = some (.tup [.ref b, v]) ∧ H' b = some (.tup (k.map kV))) →
        ∃ bs : List Addr, IsKeys H' kvs bs ∧ bs.length = ts.length ∧ ∀ (j : Nat) t, ts[j]? = some t → ∃ k v b, kvs[j]? = some (k, v) ∧ B t = some (.tup [.ref b, v]) ∧ bs[j]? = some b := fun m => by
      induction m with
      | nil =>
        intro kvs ts B _ rk len _
        cases rk
        have : ts = [] := List.length_eq_zero_iff.mp len
        subst this
        exact ⟨[], .nil, rfl, fun j t e => by simp at e⟩
      | cons p m ih =>
        intro kvs ts B sb rk len h
        cases rk with
        | cons r1 r2 =>
          cases ts with
          | nil => simp at len
          | cons t ts =>
            obtain ⟨bs, k1, k2, k3⟩ := ih _ ts B sb r2 (by simpa using len) fun j t e => h (j + 1) t (by simpa using e)
            obtain ⟨k, v, b, e1, e2, e3⟩ := h 0 t rfl
            cases Option.some.inj e1
            refine ⟨b :: bs, .cons e3 k1, by simp [k2], fun j t' e => ?_⟩
            cases j with
            | zero => exact ⟨_, _, b, rfl, Option.some.inj e ▸ e2, rfl⟩
            | succ j =>
              obtain ⟨k', v', b', a1, a2, a3⟩ := k3 j t' (by simpa using e)
              exact ⟨k', v', b', by simpa using a1, a2, by simpa using a3⟩
    have atT : ∀ t ∈ ts, B3 t = H' t := fun t ht => by
      have z := at3 (t, (H' t).getD (.lst [])) (List.mem_cons_of_mem _ (List.mem_map_of_mem ht))
      obtain ⟨o, ho⟩ := pick t ht
      rw [ho] at z ⊢
      exact z
    obtain ⟨bs, ks, lb, bt⟩ := keys m kvs ts B3 S3.sub (RepKv.mono (P2.trans P3).same m rk) len fun j t e => by
      obtain ⟨k, v, b, h1, h2, h3⟩ := et j t e
      exact ⟨k, v, b, h1, (atT t (List.mem_of_getElem? e)).trans h2, gr _ _ h3⟩
    obtain ⟨B4, P4, S4, ra⟩ := S3.takeKeys (RepKv.mono (P2.trans P3).same m rk) ks
    have rk4 := RepKv.mono ((P2.trans P3).trans P4).same m rk
    -- the pairs
    have pairs : ∀ (m : List (List Int × D)) (kvs : List (List L2.Key × V)) (ts bs : List Addr), RepKv K B4 kvs m → RepAll K B4 (bs.map V.ref) (m.map fun p => rowD p.1) → ts.length = kvs.length → bs.length = ts.length →
        (∀ (j : Nat) t, ts[j]? = some t → ∃ k v b, kvs[j]? = some (k, v) ∧ B4 t = some (.tup [.ref b, v]) ∧ bs[j]? = some b) → RepAll K B4 (ts.map V.ref) (m.map pairD) := fun m => by
      induction m with
      | nil =>
        intro kvs ts bs rk _ l1 _ _
        cases rk
        have : ts = [] := List.length_eq_zero_iff.mp l1
        subst this
        exact .nil
      | cons p m ih =>
        intro kvs ts bs rk ra l1 l2 h
        cases rk with
        | cons r1 r2 =>
          cases ts with
          | nil => simp at l1
          | cons t ts =>
            cases bs with
            | nil => simp at l2
            | cons b bs =>
              cases ra with
              | cons a1 a2 =>
                obtain ⟨k, v, b', e1, e2, e3⟩ := h 0 t rfl
                cases Option.some.inj e1
                cases Option.some.inj e3
                exact .cons (.tup e2 (.cons a1 (.cons r1 .nil))) (ih _ ts bs r2 a2 (by simpa using l1) (by simpa using l2) fun j t' e => by
                  obtain ⟨k', v', b'', x1, x2, x3⟩ := h (j + 1) t' (by simpa using e)
                  exact ⟨k', v', b'', by simpa using x1, x2, by simpa using x3⟩)
    have pr := pairs m kvs ts bs rk4 ra len lb fun j t e => by
      obtain ⟨k, v, b, x1, x2, x3⟩ := bt j t e
      exact ⟨k, v, b, x1, P4.same _ _ x2, x3⟩
    have el4 : B4 l = some (.lst (ts.map V.ref)) := P4.same _ _ (at3 _ List.mem_cons_self)
    exact q _ _ _ _ (((P1.trans P2).trans P3).trans P4) S4 (.rls el4 pr)
end
end DL
end
section
set_option Elab.async false
set_option linter.all false
set_option maxRecDepth 100000
/-! list(o), o's own `__iter__` gives a list's iterator -/
namespace DL
open PySem PySem.Spec PyProof.Rows L2
theorem upd_comm {H : Hp} {a b : Addr} {x y : HO} (h : a ≠ b) : upd (upd H a x) b y = upd (upd H b y) a x := by
  funext c
  by_cases e1 : c = a
  · subst e1
    rw [upd_ne h, upd_same, upd_same]
  · by_cases e2 : c = b
    · subst e2
      rw [upd_same, upd_ne e1, upd_same]
    · rw [upd_ne e2, upd_ne e1, upd_ne e1, upd_ne e2]
theorem sqL_upd {K : PySem.W.Frag} {H : Hp} {a b : Addr} {o : HO} {xs : List V} (h : SqL K H a xs) (n : a ≠ b) : SqL K (upd H b o) a xs := by
  unfold SqL Rd at h ⊢
  simp only [upd_ne n]
  exact h
/-- what such an `__iter__` promises: a new iterator over the list in the field -/
def spItL (K : PySem.W.Frag) (C : Addr) (f : Str) : Sp := fun vs H Q _ => ∃ a dx fs l zs, vs = [.ref a] ∧ H a = some (.ins C dx fs) ∧ fs.lookup f = some (.ref l) ∧ SqL K H l zs ∧ ∀ it, H it = none → Q (.ref it) (upd H it (ItO l it 0))
/-- what is asked of the class: its `__iter__`, and that nothing tells a length -/
structure ItL (K : PySem.W.Frag) (C fi : Addr) : Prop where
  walk : Meth K C "__iter__" fi
  bare : NoAttr K C "__len__" ∧ NoAttr K C "__length_hint__"
/-- list(o) -/
def rListO (K : PySem.W.Frag) (C : Addr) (f : Str) : List V → Hp → VK → Prop := fun xs H Q => ∃ a dx fs l zs, xs = [.ref a] ∧ H a = some (.ins C dx fs) ∧ fs.lookup f = some (.ref l) ∧ SqL K H l zs ∧ (∃ u, H l = some u) ∧ ∀ q, H q = none → Q (.ref q) (upd H q (.lst zs))
section
variable {X : Cx} {C fi : Addr} {f : Str} {fdI : FuncData} {psI : List Str} {n : Nat}
/-- a turn of the loop that fills a list -/
theorem loop_body {A1 : Around} {q it : Addr} {Rs : Result → Shared → Prop} {s : Shared} (h : wpAny (model X.prog X.w) A1.in1 (pyNext (.ref it)) (fun r t => wpAny (model X.prog X.w) A1.in1 (match r with
      | none => ret .none
      | some u => updateSeq q (·.push u) >>= fun _ => again (.builtin "list.extend.loop" ⟨[.ref q, .ref it, .none], []⟩)) (fun fin t' => match fin with | .done f => Rs (.ok f) t' | .again c' => c'.quiet = true ∧ codeAny (model X.prog X.w) A1 c' Rs t') (fun e t' => Rs (.error e) t') t) (fun e t => Rs (.error e) t) s) :
    codeAny (model X.prog X.w) A1 (.builtin "list.extend.loop" ⟨[.ref q, .ref it, .none], []⟩) Rs s := by
  refine codeAny_builtin PySem.F.entry_extend_loop ?_
  rw [Around.under_plainId (A := A1) PySem.F.plain_extend_loop]
  exact wpAny_bind (wpAny_mono h (fun r t z => by cases r <;> exact z) fun _ _ z => z)
/-- an empty list's room is tried: it stays empty -/
theorem touch_ok {pins : List (Addr × Obj)} {σ : L2.St} {A1 : Around} {Q : Unit → Shared → Prop} {E : Value → Shared → Prop} {q : Addr} {H : Hp} {s : Shared} (I : Inv X pins σ H s) (hq : H q = some (.lst [])) (h : ∀ t, Inv X pins σ H t → Q () t) :
    wpAny (model X.prog X.w) A1 (Builtin.List.listTouch (.ref q)) Q E s := by
  obtain ⟨-, vs, c, rel, -, at_⟩ := I.lstM hq
  cases rel
  have one := I.lset (f := fun a => a.push Value.none) (its' := [Value.none]) (ys := [V.non]) (t' := s.toks) hq at_ rfl (.cons rfl .nil) (show 1 ≤ sizeLine by rw [sizeLine_eq]; decide)
  obtain ⟨-, us, c', rel', -, at'⟩ := one.lstM upd_same
  obtain ⟨u, rfl, -⟩ := rel'.one
  have two := one.lset (f := fun a => a.pop) (its := [u]) (its' := []) (ys := []) (t' := s.toks) upd_same at' rfl .nil (Nat.zero_le _)
  have same : upd H q (.lst []) = H := funext fun b => by
    rcases Decidable.em (b = q) with e | e
    · rw [e, upd_same, hq]
    · exact upd_ne e
  rw [upd_upd, same] at two
  change wpAny _ _ (Bind.bind (updateSeq q fun a => a.push .none) fun _ => updateSeq q fun a => a.pop) _ _ _
  exact wpAny_bind (wpAny_updateSeq at_ rfl (wpAny_updateSeq at' rfl (h _ two) (show 1 ≤ sizeLine by rw [sizeLine_eq]; decide) (show 0 ≤ sizeLine + 1 from Nat.zero_le _)))
theorem loop_listO {pins : List (Addr × Obj)} {σ : L2.St} {A1 : Around} {Rs : Result → Shared → Prop} {q it l : Addr} {zs : List V} {H : Hp} (hc : A1.in1.handled = none) (hql : l ≠ q) (hit : l ≠ it) (hqi : q ≠ it) (nit : H it = none)
    (hH : SqL X.K H l zs) (hz : zs.length ≤ sizeLine) (hdone : ∀ s, Inv X pins σ (upd H q (.lst zs)) s → Rs (.ok (.ret .none)) s) :
    ∀ (k i : Nat) (s : Shared), zs.length - i = k → i ≤ zs.length → Inv X pins σ (upd (upd H q (.lst (zs.take i))) it (ItO l it i)) s → codeAny (model X.prog X.w) A1 (.builtin "list.extend.loop" ⟨[.ref q, .ref it, .none], []⟩) Rs s := by
  intro k
  induction k with
  | zero =>
    intro i s hk hi I
    have ei : i = zs.length := by omega
    subst ei
    rw [List.take_length] at I
    refine loop_body ?_
    obtain ⟨its, rv, pl, -⟩ := I.list (sqL_upd (sqL_upd hH hql) hit)
    have atI : upd (upd H q (.lst zs)) it (ItO l it zs.length) it = some (ItO l it zs.length) := upd_same
    have mu : Mut (upd (upd H q (.lst zs)) it (ItO l it zs.length) it) := by rw [atI]; exact True.intro
    refine DSub.py_end hc (itO_get I atI) pl.isList (by rw [List.getElem?_toArray]; exact rv.none_of (List.getElem?_eq_none (Nat.le_refl _))) fun h' e1 eb => ?_
    have I2 : Inv X pins σ (upd (upd H q (.lst zs)) it (ItE it zs.length)) { s with heap := h' } := by
      have J := I.write (x := it) (e := it) (t' := s.toks) mu (.inl rfl) (fun b o nb z => eb b o nb z) ⟨_, e1⟩ (itE_ok e1)
      rw [upd_upd] at J
      exact J
    have I5 := ItX.inv_drop (a := it) (φ := fun h => h.get? it = some (GNX.itEnd zs.length)) I2 upd_same
    rw [ItX.dropH_upd (by rw [upd_ne (Ne.symm hqi)]; exact nit)] at I5
    exact wpAny_pure (hdone _ I5)
  | succ k ih =>
    intro i s hk hi I
    have lt : i < zs.length := by omega
    refine loop_body ?_
    obtain ⟨its, rv, pl, -⟩ := I.list (sqL_upd (sqL_upd hH hql) hit)
    have atI : upd (upd H q (.lst (zs.take i))) it (ItO l it i) it = some (ItO l it i) := upd_same
    have mu : Mut (upd (upd H q (.lst (zs.take i))) it (ItO l it i) it) := by rw [atI]; exact True.intro
    obtain ⟨w', hw, rw'⟩ := rv.get (List.getElem?_eq_getElem lt)
    refine DSub.py_item (itO_get I atI) pl.isList (by rw [List.getElem?_toArray]; exact hw) fun h' e1 sb => ?_
    have I2 : Inv X pins σ (upd (upd H q (.lst (zs.take i))) it (ItO l it (i + 1))) { s with heap := h' } := by
      have J := I.write (x := it) (e := it) (t' := s.toks) mu (.inl rfl) (fun b o nb z => (sb.2 b nb).trans z) ⟨_, e1⟩ (itO_ok e1)
      rw [upd_upd] at J
      exact J
    have atq : upd (upd H q (.lst (zs.take i))) it (ItO l it (i + 1)) q = some (.lst (zs.take i)) := by rw [upd_ne hqi, upd_same]
    obtain ⟨z, its2, kk, r2, hl, e⟩ := I2.lstM atq
    have len : (zs.take i).length = i := by rw [List.length_take]; omega
    have len2 : its2.length = i := by rw [← r2.length, len]
    show wpAny _ A1.in1 (updateSeq q (·.push w') >>= _) _ _ _
    refine wpAny_bind (wpAny_updateSeq e rfl (wpAny_pure ⟨plainId_quiet PySem.F.plain_extend_loop _, ?_⟩) (by rw [List.size_toArray]; omega) (by show (its2.toArray.push w').size ≤ sizeLine + 1; rw [Array.size_push, List.size_toArray]; omega))
    refine ih (i + 1) _ (by omega) lt ?_
    have J := I2.lset (its' := its2 ++ [w']) (ys := zs.take i ++ [zs[i]]) (f := (·.push w')) (t' := s.toks) atq e (by simp) (r2.append (.cons rw' .nil)) (by rw [List.length_append, List.length_singleton, len]; omega)
    rw [upd_comm (Ne.symm hqi), upd_upd] at J
    rw [List.take_succ_eq_append_getElem lt]
    exact J
theorem call_listO {CI : CXT} {EI : XK} (hc : ItL X.K C fi) (calm : X.calm = true) (FI : FnOk X.prog X.w X.K X.mg X.base CI n fi fdI psI (spItL X.K C f)) (bI : Binds X.K fdI psI []) (xI : Passes CI X EI) (hr : Room (n + 2) X.A) : CallR X (.type "list") (rListO X.K C f) := by
  rintro pins s σ H _ us Q I rel ⟨a, dx, fs, l, zs, rfl, ha, hf, hsq, ⟨ul, hul⟩, fin⟩
  obtain ⟨_, rfl, ru⟩ := rel.one
  cases ru
  have sb : Sub X n X.A.in1.in1 := Sub.in1 (Sub.in1 (⟨hr, rfl⟩ : Sub X (n + 2) X.A))
  obtain ⟨-, -, -, hz⟩ := I.list hsq
  refine list_by fun h c new kept => ?_
  have fr := I.hok.fresh (Nat.le_refl s.heap.objs.size)
  have I1 : Inv X pins σ (upd H s.heap.objs.size (.lst [])) { s with heap := h } := I.laid (t' := s.toks) kept (Nat.le_refl _) ⟨Nat.zero_le _, [], c, .nil, new⟩
  generalize s.heap.objs.size = q at *
  have hne : q ≠ a := fun z => by rw [z, ha] at fr; cases fr
  have hql : l ≠ q := fun z => by rw [← z, hul] at fr; cases fr
  have ha1 : upd H q (.lst []) a = some (.ins C dx fs) := by rw [upd_ne (Ne.symm hne)]; exact ha
  obtain ⟨mA, J, _⟩ := ins_get I1.hok ha1
  obtain ⟨od, J, _⟩ := J.look
  obtain ⟨m0, hF⟩ := I1.fr
  unfold Builtin.List.listExtendWith
  refine wpAny_bind (J.type.here ?_)
  obtain ⟨o1, o2, o3⟩ : Builtin.List.listSameRef (.ref q) (.ref a) = false ∧ (Value.ref C == Value.type "list") = false ∧ (Value.ref C == Value.type "tuple") = false := ⟨by simp [Builtin.List.listSameRef, hne], rfl, rfl⟩
  simp only [o1, o2, o3, Bool.false_eq_true, Bool.or_false, if_false]
  refine wpAny_bind (PySem.W.owit_iter hF I1.ok.mod.kin J hc.walk.at_ hc.walk.fn ?_)
  have e0 : Env0 X.prog X.w X.K X.mg X.base X.A.in1.in1 X.stack { s with heap := h } (upd H q (.lst [])) := by
    obtain ⟨fr0, e1, e2, e3, e4, e5, e6, e7⟩ := I1.env0
    exact ⟨sb.fr ▸ fr0, e1, e2, e3, e4, e5, e6, e7⟩
  have hspI : spItL X.K C f [.ref a] (upd H q (.lst [])) (fun v H' => ∃ it, v = .ref it ∧ upd H q (.lst []) it = none ∧ H' = upd (upd H q (.lst [])) it (ItO l it 0)) EI := ⟨a, dx, fs, l, zs, rfl, ha1, hf, sqL_upd hsq hql, fun it hit => ⟨it, rfl, hit, rfl⟩⟩
  have hl := FI.len _ _ _ _ hspI
  have rel1 : Vals [V.ref a] [Value.ref a] := .cons rfl .nil
  refine wpAny_call (codeAny_mono (FI.run X.A.in1.in1 X.stack _ _ ⟨[.ref a], []⟩ [.ref a] [.ref a] _ EI sb.room e0 (by
    have := bI { s with heap := h } [.ref a] I1.kIn hl
    exact this) rel1 hspI) fun r s' hq' => ?_)
  cases r with
  | error e => exact (xI pins σ _ _ e s' I1 hq')
  | ok fl =>
    cases fl with
    | next => exact False.elim hq'
    | brk => exact False.elim hq'
    | cont => exact False.elim hq'
    | ret u =>
      obtain ⟨v, H', I', rv, it, ev, nit, eH⟩ := I1.after hq'
      subst ev
      rw [eH] at I'
      cases rv
      have hqi : q ≠ it := fun z => by rw [← z, upd_same] at nit; cases nit
      have nit0 : H it = none := by rw [← nit, upd_ne (Ne.symm hqi)]
      have hit : l ≠ it := fun z => by rw [← z, hul] at nit0; cases nit0
      have hai : a ≠ it := fun z => by rw [← z, ha] at nit0; cases nit0
      have ho := itO_get I' (it := it) (l := l) (i := 0) upd_same
      have hT := (DSub.iter_of ho).typeIs
      show PySem.W.OwitIt _ _ _ _ _ _
      unfold PySem.W.OwitIt
      refine wpAny_specialOf (name := Str.ofString "__next__") hT slot_listiter_next.lookup ?_
      show wpAny _ _ _ _ _ _
      have ha2 : upd (upd H q (.lst [])) it (ItO l it 0) a = some (.ins C dx fs) := by rw [upd_ne hai]; exact ha1
      obtain ⟨mA', J', _⟩ := ins_get I'.hok ha2
      obtain ⟨od', J', _⟩ := J'.look
      have loop : ∀ s2, Inv X pins σ (upd (upd H q (.lst [])) it (ItO l it 0)) s2 → codeAny (model X.prog X.w) X.A.in1 (.builtin "list.extend.loop" ⟨[.ref q, .ref it, .none], []⟩) (fin1 (EP X pins σ Q) X.xe q) s2 := fun s2 I2 =>
        loop_listO (X := X) (A1 := X.A.in1) (I2.ok.hd calm) hql hit hqi nit0 hsq hz (fun s3 I3 => ⟨rfl, .ref q, _, I3, rfl, fin q fr⟩) zs.length 0 s2 (by omega) (Nat.zero_le _) I2
      refine wpAny_bind (wpAny_holding ?_)
      unfold Builtin.List.listLengthHint
      refine wpAny_bind (wpAny_bind (J'.type.here ((PySem.W.looks_findIn I'.kIn hc.bare.1).here ?_)))
      refine PySem.W.KFB.if_not rfl ?_
      refine PySem.W.KFB.if_not rfl ?_
      refine wpAny_bind (wpAny_bind (J'.type.here ((PySem.W.looks_findIn I'.kIn hc.bare.2).here ?_)))
      refine wpAny_pure ?_
      refine wpAny_ite_split (fun _ => wpAny_bind (wpAny_rule (wpAny_bind (touch_ok I' (by rw [upd_ne hqi, upd_same]) fun t I2 => ?_)))) (fun _ => ?_)
      · exact wpAny_pure ⟨plainId_quiet PySem.F.plain_extend_loop _, loop _ I2⟩
      · exact wpAny_pure ⟨plainId_quiet PySem.F.plain_extend_loop _, loop _ I'⟩
end
section
variable {K : PySem.W.Frag} {ss : Sl} {mem m1 : List Mc} {td : TE} {C : Addr} {gs : List (Str × D)} {f : Str} {ds : List D}
theorem dt_listO (hd : DT K td ss mem (.dat (.obj C gs)) m1) (hf : gs.lookup f = some (.rls ds)) : DT K (tCB (rListO K C f) (tCons td tNil)) ss mem (.dat (.rls ds)) m1 := fun B H al σ Q S q =>
  hd B H al σ _ S fun B1 H1 al1 v P1 S1 r1 => by
    cases r1 with
    | @obj a _ dx fs _ s r =>
      obtain ⟨x, h1, h2⟩ := r.look hf
      cases h2 with
      | @rls l xs _ sl rl =>
        refine ⟨a, dx, fs, l, xs, rfl, S1.sub _ _ s, h1, SqL.of (S1.sub _ _ sl), ⟨_, S1.sub _ _ sl⟩, fun p np => ?_⟩
        obtain ⟨P2, S2⟩ := S1.lay (o := .lst xs) np
        exact q _ _ _ _ (P1.trans P2) S2 (.rls upd_same (RepAll.mono P2.same _ rl))
end
end DL
end
section
set_option Elab.async false
set_option linter.all false
set_option maxRecDepth 100000
/-! small rules: dicts and lists that are made and left alone, three targets, != of bools, a method of one of two classes -/
namespace DL
open PySem PySem.Spec PyProof.Rows L2
section
variable {K : PySem.W.Frag} {ss : Sl} {mem m1 m2 m3 : List Mc} {ta tb te td ty : TE} {t : TS} {x : Vl} {r : Vl} {out : Out} {m : List (List Int × D)} {a b : Bool} {d e g : D}
theorem dt_dnewD : DT K tDNewT ss mem (.dat (.dic [])) mem := fun B H al σ Q S k p np => by
  obtain ⟨P2, S2⟩ := S.lay (o := .dT []) np
  exact k _ _ _ _ P2 S2 (.dic (.inl upd_same) .nil)
theorem dt_dictPrD (h : DT K te ss mem (.dat (.lst (m.map pairD))) m1) : DT K (tCB (rDictPrT K) (tCons te tNil)) ss mem (.dat (.dic (putAllI [] m))) m1 := fun B H al σ Q S q =>
  h B H al σ _ S fun B1 H1 al1 v P1 S1 r1 => by
    cases r1 with
    | @lst l xs _ s r =>
      obtain ⟨ps, bs, kvs, rfl, l1, l2, rk, at_⟩ := r.pairs
      refine ⟨l, ps, bs, kvs, rfl, S1.seqL s, l1, l2, fun j p b k v e1 e2 e3 => let z := at_ j p b k v e1 e2 e3; ⟨S1.sub _ _ z.1, S1.sub _ _ z.2⟩, fun c nc => ?_⟩
      obtain ⟨P2, S2⟩ := S1.lay (o := .dT (DL.putAll [] kvs)) nc
      exact q _ _ _ _ (P1.trans P2) S2 (.dic (.inl upd_same) (RepKv.mono P2.same _ (RepKv.putAll rk .nil)))
theorem dt_tlR {ds : List D} (h : DT K te ss mem (.tl ds) m1) : DT K te ss mem (.dat (.rls ds)) m1 := fun B H al σ Q S q =>
  h B H al σ _ S fun B1 H1 al1 v P1 S1 r1 => by
    obtain ⟨a, xs, rfl, h1, h2⟩ := r1
    exact q _ _ _ _ P1 S1 (.rls h1 h2)
/-- xs + [..]: a new own list -/
theorem dt_catRO {ds es : List D} (ha : DT K ta ss mem (.dat (.rls ds)) m1) (hb : DT K tb ss m1 (.tl es) m2) (hl : ds.length + es.length ≤ 16777216) : DT K (tOp rCat ta tb) ss mem (.own m2.length) (m2 ++ [.lst (ds ++ es)]) :=
  dt_op ha hb fun B H al σ v w Q S hv hw k => by
    cases hv with
    | @rls a xs _ a2 a3 =>
      obtain ⟨b, ys, rfl, b2, b3⟩ := hw
      refine ⟨a, b, xs, ys, rfl, rfl, S.sub _ _ a2, S.sub _ _ b2, by rw [a3.len, b3.len, sizeLine_eq]; exact hl, fun p np => ?_⟩
      obtain ⟨P, S'⟩ := S.layOwn (o := .lst (xs ++ ys)) (m := .lst (ds ++ es)) np ⟨S.sub.free np, _, upd_same, a3.append b3⟩
      exact k _ _ _ _ P S' (own_last S p)
theorem ds_frzR {n : Nat} {ds : List D} (i : Nat) (hi : ss[i]? = some (some (.own n))) (hm : mem[n]? = some (.lst ds)) (h : DS K t (ss.set i (some (.dat (.rls ds)))) (mem.set n .gone) out) : DS K t ss mem out := fun B H al σ Dn S q => by
  obtain ⟨v, h1, a, a1, rfl⟩ := S.slot i _ hi
  obtain ⟨b0, xs, a2, a3⟩ := S.mem n a _ a1 hm
  obtain ⟨P1, S1⟩ := S.freeze a1 b0 a2
  have S2 : Sit K (upd B a (.lst xs)) H al σ (ss.set i (some (.dat (.rls ds)))) (mem.set n .gone) := by
    refine ⟨S1.sub, by rw [List.length_set]; exact S1.len, fun j z e => ?_, S1.mlen, S1.mem, S1.nd, S1.there⟩
    by_cases hj : j = i
    · subst hj
      have hl : j < ss.length := (List.getElem?_eq_some_iff.mp hi).1
      rw [List.getElem?_set_self hl] at e
      have e' := Option.some.inj (Option.some.inj e)
      subst e'
      exact ⟨_, h1, .rls upd_same (RepAll.mono P1.same _ a3)⟩
    · rw [List.getElem?_set_ne (Ne.symm hj)] at e
      exact S1.slot j z e
  exact h _ H al σ Dn S2 fun B2 H2 al2 P2 => q _ _ _ (P1.trans P2)
theorem ds_par3 {i j l : Nat} {tt : TA} (h : DA K tt ss mem [d, e, g] m1) : DS K (tPar3 i j l tt) ss mem (.nx (((ss.set i (some (.dat d))).set j (some (.dat e))).set l (some (.dat g))) m1) := fun B H al σ Dn S k =>
  h B H al σ _ S fun B1 H1 al1 vs P1 S1 r1 => by
    cases r1 with
    | cons r1 r2 =>
      cases r2 with
      | cons r2 r3 =>
        cases r3 with
        | cons r3 r4 =>
          cases r4
          exact ⟨_, _, _, rfl, k _ _ _ P1 _ (((S1.put fun q e => by cases e; exact r1).put fun q e => by cases e; exact r2).put fun q e => by cases e; exact r3)⟩
theorem dt_neB (ha : DT K ta ss mem (.dat (.bl a)) m1) (hb : DT K tb ss m1 (.dat (.bl b)) m2) : DT K (tOp rNe ta tb) ss mem (.dat (.bl (!decide (a = b)))) m2 :=
  dt_op ha hb fun B H al σ v w Q S hv hw k => by
    cases hv
    cases hw
    refine ⟨rfl, k _ _ _ _ (Stp.refl _ _ _) S ?_⟩
    have e : decide (V.bl a = V.bl b) = decide (a = b) := by simp
    rw [e]
    exact .bl _
theorem dt_neB_same (ha : DT K ta ss mem (.dat (.bl a)) m1) (hb : DT K tb ss m1 (.dat (.bl a)) m2) : DT K (tOp rNe ta tb) ss mem (.dat (.bl false)) m2 := by
  have e := dt_neB ha hb
  rw [decide_eq_true rfl] at e
  exact e
end
/-- what one of two says -/
def tEither (t u : TE) : TE := fun σ H Q => t σ H Q ∨ u σ H Q
theorem pe_either {X : Cx} {e : Expr} {t u : TE} (h : PE X e t) (g : PE X e u) : PE X e (tEither t u) := ⟨fun pins s σ H Q I q => q.elim (fun z => h.run pins s σ H Q I z) fun z => g.run pins s σ H Q I z⟩
theorem dt_left {K : PySem.W.Frag} {ss : Sl} {mem m1 : List Mc} {t u : TE} {r : Vl} (h : DT K t ss mem r m1) : DT K (tEither t u) ss mem r m1 := fun B H al σ Q S k => .inl (h B H al σ Q S k)
theorem dt_right {K : PySem.W.Frag} {ss : Sl} {mem m1 : List Mc} {t u : TE} {r : Vl} (h : DT K u ss mem r m1) : DT K (tEither t u) ss mem r m1 := fun B H al σ Q S k => .inr (h B H al σ Q S k)
/-! equal dicts -/
theorem lookI_in : ∀ {mi : List (List Int × Int)}, (mi.map (·.1)).Nodup → ∀ p ∈ mi, lookI mi p.1 = some p.2
  | q :: m, nd, p, h => by
    have nd' := List.nodup_cons.mp nd
    show (if q.1 = p.1 then some q.2 else lookI m p.1) = some p.2
    rcases List.mem_cons.mp h with e | e
    · subst e
      exact if_pos rfl
    · have ne : ¬ q.1 = p.1 := fun z => nd'.1 (by show q.1 ∈ _; rw [z]; exact List.mem_map_of_mem e)
      rw [if_neg ne]
      exact lookI_in nd'.2 p e
theorem eqI_same {mi ni : List (List Int × Int)} (hl : mi.length = ni.length) (nd : (ni.map (·.1)).Nodup) (sub : ∀ p ∈ mi, p ∈ ni) : eqI mi ni = true :=
  decide_eq_true ⟨hl, fun p hp => lookI_in nd p (sub p hp)⟩
end DL
end
section
set_option Elab.async false
set_option linter.all false
set_option maxRecDepth 100000
set_option maxHeartbeats 2000000
/-! the head's facts: defs wherever they stand, properties, classes -/
namespace DLz
open PySem PySem.Spec PyProof.Rows L2
/-- a def: where it stands, its names, its statement -/
structure DefX where
  adr : PySem.W.Frag → Addr
  name : Str
  qual : Str
  st : Stmt
/-- as the library's head says it -/
def DefX.toA (d : DefX) : He5.DefA := { at_ := d.adr, name := d.name, qual := d.qual, params := defArgs d.st, body := defBody d.st, scope := defScope d.st }
/-- the getter of the property f of the class x -/
def getAd (x f : Str) (K : PySem.W.Frag) : Addr := match PySem.W.recIn K (He.ma K (He.ga K x) f) "property" with
  | some (.ref g :: _) => g
  | _ => 0
/-- facts that HeadHook1 lacks -/
inductive Fx where
  | fa (f : He.Fa)
  | prop (x f : Str)
  | isi (x : Str)
  | strs (x : Str) (vs : List Str)
/-- the text that a value is -/
def txtOf : Value → Option Str
  | .str x _ => some x
  | _ => none
def Fx.ok (K : PySem.W.Frag) : Fx → Bool
  | .fa f => f.ok K
  | .prop x f => He.eqO (PySem.W.findIn K (.ref (He.ga K x)) f) (some (some (.ref (He.ma K (He.ga K x) f)))) && (He.eqO (PySem.W.specialIn K (.ref (He.ma K (He.ga K x) f)) "__get__") (some (some (.builtin "property.__get__"))) &&
      (decide (PySem.W.takesIn K (.ref (He.ma K (He.ga K x) f)) = some true) && (match PySem.W.recIn K (He.ma K (He.ga K x) f) "property" with
        | some (.ref g :: _) => decide (g = getAd x f K)
        | _ => false)))
  | .isi x => He.eqO (PySem.W.findIn K (.ref (He.ga K x)) "__class__") (some (some (.builtin "object.__class__"))) && (He.eqO (PySem.W.specialIn K (.builtin "object.__class__") "__get__") (some (some (.builtin "getset_descriptor.__get__"))) &&
      (decide (PySem.W.takesIn K (.builtin "object.__class__") = some true) && decide (PySem.W.mroIn K (He.ga K x) (.type "object") = some true)))
  | .strs x vs => He.eqO (PySem.W.nsIn K mainGlobals x) (some (some (.ref (He.ga K x)))) && (match K.lookup (He.ga K x) with
      | some ⟨.type "tuple", _, .seq items _, _⟩ => decide (items.toList.map txtOf = vs.map some) && decide (vs.length ≤ 1000)
      | _ => false)
section
variable {K : PySem.W.Frag}
theorem txts : ∀ {its : List Value} {vs : List Str}, its.map txtOf = vs.map some → L2.Vals (vs.map V.str) its
  | [], [], _ => .nil
  | [], _ :: _, h => by cases h
  | _ :: _, [], h => by cases h
  | i :: its, v :: vs, h => by
    rw [List.map_cons, List.map_cons] at h
    obtain ⟨h1, h2⟩ := List.cons.inj h
    refine .cons ?_ (txts h2)
    cases i <;> first | (cases h1; exact ⟨_, rfl⟩) | cases h1
theorem strs_ok {x : Str} {vs : List Str} (c : Fx.ok K (.strs x vs) = true) : ∀ H : L2.Hp, L2.SqT K H (He.ga K x) (vs.map V.str) := fun H => by
  obtain ⟨-, c⟩ := He.ba c
  split at c
  · rename_i d items n sl e
    obtain ⟨c1, c2⟩ := He.ba c
    have h := of_decide_eq_true c1
    have len : items.size = vs.length := by
      have z := congrArg List.length h
      simpa using z
    have le := of_decide_eq_true c2
    exact .inr ⟨_, items, n, e, rfl, rfl, by rw [sizeLine_eq]; omega, txts h⟩
  · cases c
theorem prop_ok {x f : Str} (c : Fx.ok K (.prop x f) = true) : PropOf K (He.ga K x) f (He.ma K (He.ga K x) f) (getAd x f K) := by
  obtain ⟨c1, c⟩ := He.ba c
  obtain ⟨c2, c⟩ := He.ba c
  obtain ⟨c3, c4⟩ := He.ba c
  refine ⟨He.eqO_ok c1, He.eqO_ok c2, of_decide_eq_true c3, ?_⟩
  split at c4
  · rename_i g rest e
    rw [of_decide_eq_true c4] at e
    exact ⟨_, e⟩
  · cases c4
theorem isi_ok {x : Str} (c0 : (He.Fa.cls x).ok K = true) (c : Fx.ok K (.isi x) = true) : DL.ClsT K (He.ga K x) := by
  obtain ⟨c1, c⟩ := He.ba c
  obtain ⟨c2, c⟩ := He.ba c
  obtain ⟨c3, c4⟩ := He.ba c
  refine ⟨He.cls_ok c0, He.eqO_ok c1, He.eqO_ok c2, of_decide_eq_true c3, of_decide_eq_true c4, ?_⟩
  unfold PySem.W.kitOne
  rw [if_pos (by simp)]
end
/-! the Hook: the library's for the defs, and the facts beside it -/
abbrev Al : Type := He.AlD × Bool
def seen (xs : List Fx) (fn : List DefX) (K : PySem.W.Frag) : Al := (He5.obsA [] (fn.map DefX.toA) K, xs.all (Fx.ok K))
def good (fn : List DefX) : Al := (He5.valA (fn.map DefX.toA), true)
structure Says (xs : List Fx) (fn : List DefX) (K : PySem.W.Frag) : Prop where
  defs : He5.SaysA [] (fn.map DefX.toA) K
  all_ : xs.all (Fx.ok K) = true
def obsG (n : Nat) (xs : List Fx) (fn : List DefX) (g : Addr → Option Obj) : Al := seen xs fn (He.frG g (He.asG g n))
def hook (n : Nat) (xs : List Fx) (fn : List DefX) : PySem.W.Hook where
  α := Al
  obs s := obsG n xs fn s.heap.get?
  val _ := good fn
  says _ h := ∃ K : PySem.W.Frag, K.In h ∧ Says xs fn K
  of _ _ e := ⟨He.frG _ (He.asG _ n), He.frG_in, ⟨congrArg Prod.fst e, congrArg Prod.snd e⟩⟩
  keeps := by
    rintro w h h' ⟨K, inside, said⟩ kept
    exact ⟨K, inside.keeps kept, said⟩
theorem obsG_eq {n : Nat} {xs : List Fx} {fn : List DefX} {g : Addr → Option Obj} {s : Shared} (h : ∀ a, g a = s.heap.get? a) : obsG n xs fn g = (hook n xs fn).obs s :=
  congrArg (obsG n xs fn) (funext h)
section
variable {xs : List Fx} {fn : List DefX} {K : PySem.W.Frag}
theorem Says.fact (c : Says xs fn K) (i : Nat) {f : Fx} (h : xs[i]? = some f := by rfl) : Fx.ok K f = true := List.all_eq_true.mp c.all_ f (List.mem_of_getElem? h)
theorem Says.def_ (c : Says xs fn K) (i : Nat) {d : DefX} (h : fn[i]? = some d := by rfl) : ∃ fd, Fun K d.name d.qual d.st (d.adr K) fd := by
  obtain ⟨fd, F⟩ := c.defs.def_ i (d := d.toA) (by rw [List.getElem?_map, h]; rfl)
  exact ⟨fd, He5.fun_of F⟩
end
/-- how the law's one argument binds -/
theorem binds1 {K : PySem.W.Frag} {x qual : Str} {st : Stmt} {f : Addr} {fd : FuncData} {p : Str} (F : Fun K x qual st f fd)
    (h : ∀ (kV doc pm : Value) (an : Option Addr) (cdv ct : Value) (u : Value), bindArgs (PySem.W.fnOf x qual (defArgs st) (defBody st) (defScope st) .none kV doc pm an cdv ct) ⟨[u], []⟩ = pure [(p, u)]) (s : Shared) (u : Value) : BindsTo s fd ⟨[u], []⟩ [(p, u)] := by
  obtain ⟨_, _, _, _, _, _, _, _, _, made, -, -⟩ := F.ex
  exact made ▸ .of_eq (h ..)
end DLz
namespace DLz
open PySem PySem.Spec PyProof.Rows L2 DL
theorem law_end {K : PySem.W.Frag} {H : Hp} {a : Addr} {ns : List Int} {R : List D → D → Prop} {E : XK} (hS : SqL K H a (ns.map V.int)) (hR : R [.lst (ns.map D.int)] (.bl true)) :
    DL.spP K 1 R [.ref a] H (fun v _ => v = .bl true) E :=
  ⟨H, [], [.dat (.lst (ns.map D.int))], [], .bl true, [], ⟨[.lst (ns.map D.int)], rfl, rfl, rfl, hR⟩, rfl, rfl, pack_slots (Same.refl H) (.cons (.lst hS (RepAll.ofInts ns)) .nil), fun B' H' v _ _ rv => by
    cases rv
    rfl⟩
end DLz
end
section
set_option Elab.async false
set_option linter.all false
set_option maxRecDepth 100000
set_option maxHeartbeats 4000000
namespace K2
open PySem PySem.Spec PyProof.Rows L2 DL
def topS (i : Nat) : Stmt := PySem.Challenge.pw_coolway_k02_whole_sure.main.body.getD i (.Pass ⟨0, 0, 0, 0⟩)
abbrev s_is_done : Stmt := topS 1
theorem sc_is_done : FnScope ["chart", "state"] ["chart", "state"] (defScope s_is_done) := ⟨rfl, rfl, rfl, by decide +kernel, rfl, by decide +kernel, by decide +kernel⟩
abbrev s_roads_from : Stmt := topS 2
theorem sc_roads_from : FnScope ["chart", "place", "index", "road"] ["chart", "place"] (defScope s_roads_from) := ⟨rfl, rfl, rfl, by decide +kernel, rfl, by decide +kernel, by decide +kernel⟩
abbrev s_possible_moves : Stmt := topS 3
theorem sc_possible_moves : FnScope ["chart", "state"] ["chart", "state"] (defScope s_possible_moves) := ⟨rfl, rfl, rfl, by decide +kernel, rfl, by decide +kernel, by decide +kernel⟩
abbrev s_pairs_from : Stmt := topS 4
theorem sc_pairs_from : FnScope ["chart", "place", "most", "top", "leading", "pieces", "road"] ["chart", "place", "most"] (defScope s_pairs_from) := ⟨rfl, rfl, rfl, by decide +kernel, rfl, by decide +kernel, by decide +kernel⟩
abbrev s_move_cost : Stmt := topS 5
theorem sc_move_cost : FnScope ["chart", "state", "move"] ["chart", "state", "move"] (defScope s_move_cost) := ⟨rfl, rfl, rfl, by decide +kernel, rfl, by decide +kernel, by decide +kernel⟩
abbrev s_pieces_cost : Stmt := topS 6
theorem sc_pieces_cost : FnScope ["chart", "place", "pieces", "price"] ["chart", "place", "pieces"] (defScope s_pieces_cost) := ⟨rfl, rfl, rfl, by decide +kernel, rfl, by decide +kernel, by decide +kernel⟩
abbrev s_after_hour : Stmt := topS 7
theorem sc_after_hour : FnScope ["ice", "warm", "melt"] ["ice", "warm", "melt"] (defScope s_after_hour) := ⟨rfl, rfl, rfl, by decide +kernel, rfl, by decide +kernel, by decide +kernel⟩
abbrev s_move_results : Stmt := topS 8
theorem sc_move_results : FnScope ["chart", "state", "move", "ice", "warm", "late", "bear", "pieces", "road", "place", "hours", "melt", "_", "found", "more"] ["chart", "state", "move"] (defScope s_move_results) := ⟨rfl, rfl, rfl, by decide +kernel, rfl, by decide +kernel, by decide +kernel⟩
abbrev s_is_within : Stmt := topS 10
theorem sc_is_within : FnScope ["heights", "state", "most"] ["heights", "state", "most"] (defScope s_is_within) := ⟨rfl, rfl, rfl, by decide +kernel, rfl, by decide +kernel, by decide +kernel⟩
abbrev s_is_reached : Stmt := topS 11
theorem sc_is_reached : FnScope ["levels", "state", "number"] ["levels", "state", "number"] (defScope s_is_reached) := ⟨rfl, rfl, rfl, by decide +kernel, rfl, by decide +kernel, by decide +kernel⟩
abbrev s_heights_hold : Stmt := topS 12
theorem sc_heights_hold : FnScope ["chart", "heights", "state"] ["chart", "heights"] (defScope s_heights_hold) := ⟨rfl, rfl, rfl, by decide +kernel, rfl, by decide +kernel, by decide +kernel⟩
abbrev s_height_holds : Stmt := topS 13
theorem sc_height_holds : FnScope ["chart", "heights", "state", "height", "move", "left"] ["chart", "heights", "state"] (defScope s_height_holds) := ⟨rfl, rfl, rfl, by decide +kernel, rfl, by decide +kernel, by decide +kernel⟩
abbrev s_are_within : Stmt := topS 14
theorem sc_are_within : FnScope ["heights", "ends", "most", "end"] ["heights", "ends", "most"] (defScope s_are_within) := ⟨rfl, rfl, rfl, by decide +kernel, rfl, by decide +kernel, by decide +kernel⟩
abbrev s_levels_hold : Stmt := topS 15
theorem sc_levels_hold : FnScope ["chart", "levels", "state"] ["chart", "levels"] (defScope s_levels_hold) := ⟨rfl, rfl, rfl, by decide +kernel, rfl, by decide +kernel, by decide +kernel⟩
abbrev s_level_holds : Stmt := topS 16
theorem sc_level_holds : FnScope ["chart", "levels", "state", "move", "ends", "needed"] ["chart", "levels", "state"] (defScope s_level_holds) := ⟨rfl, rfl, rfl, by decide +kernel, rfl, by decide +kernel, by decide +kernel⟩
abbrev s_greatest_level : Stmt := topS 17
theorem sc_greatest_level : FnScope ["levels", "ends", "end"] ["levels", "ends"] (defScope s_greatest_level) := ⟨rfl, rfl, rfl, by decide +kernel, rfl, by decide +kernel, by decide +kernel⟩
abbrev s_states_spoil : Stmt := topS 18
theorem sc_states_spoil : FnScope ["chart", "states", "held", "state"] ["chart", "states"] (defScope s_states_spoil) := ⟨rfl, rfl, rfl, by decide +kernel, rfl, by decide +kernel, by decide +kernel⟩
abbrev s_state_spoils : Stmt := topS 19
theorem sc_state_spoils : FnScope ["chart", "held", "state", "move", "ends", "end"] ["chart", "held", "state"] (defScope s_state_spoils) := ⟨rfl, rfl, rfl, by decide +kernel, rfl, by decide +kernel, by decide +kernel⟩
abbrev s_is_whole : Stmt := topS 25
theorem sc_is_whole : FnScope ["value"] ["value"] (defScope s_is_whole) := ⟨rfl, rfl, rfl, by decide +kernel, rfl, by decide +kernel, by decide +kernel⟩
abbrev s_is_between : Stmt := topS 26
theorem sc_is_between : FnScope ["value", "low", "high"] ["value", "low", "high"] (defScope s_is_between) := ⟨rfl, rfl, rfl, by decide +kernel, rfl, by decide +kernel, by decide +kernel⟩
abbrev s_is_group : Stmt := topS 27
theorem sc_is_group : FnScope ["value", "size"] ["value", "size"] (defScope s_is_group) := ⟨rfl, rfl, rfl, by decide +kernel, rfl, by decide +kernel, by decide +kernel⟩
abbrev s_Map___init__ : Stmt := inClass (topS 37) 0
theorem sc_Map___init__ : FnScope ["self", "places", "roads", "prices", "box"] ["self", "places", "roads", "prices", "box"] (defScope s_Map___init__) := ⟨rfl, rfl, rfl, by decide +kernel, rfl, by decide +kernel, by decide +kernel⟩
abbrev s_Map_places : Stmt := inClass (topS 37) 1
theorem sc_Map_places : FnScope ["self"] ["self"] (defScope s_Map_places) := ⟨rfl, rfl, rfl, by decide +kernel, rfl, by decide +kernel, by decide +kernel⟩
abbrev s_Map_roads : Stmt := inClass (topS 37) 2
theorem sc_Map_roads : FnScope ["self"] ["self"] (defScope s_Map_roads) := ⟨rfl, rfl, rfl, by decide +kernel, rfl, by decide +kernel, by decide +kernel⟩
abbrev s_Map_prices : Stmt := inClass (topS 37) 3
theorem sc_Map_prices : FnScope ["self"] ["self"] (defScope s_Map_prices) := ⟨rfl, rfl, rfl, by decide +kernel, rfl, by decide +kernel, by decide +kernel⟩
abbrev s_Map_box : Stmt := inClass (topS 37) 4
theorem sc_Map_box : FnScope ["self"] ["self"] (defScope s_Map_box) := ⟨rfl, rfl, rfl, by decide +kernel, rfl, by decide +kernel, by decide +kernel⟩
abbrev s_Map___len__ : Stmt := inClass (topS 37) 5
theorem sc_Map___len__ : FnScope ["self"] ["self"] (defScope s_Map___len__) := ⟨rfl, rfl, rfl, by decide +kernel, rfl, by decide +kernel, by decide +kernel⟩
abbrev s_are_roads : Stmt := topS 38
theorem sc_are_roads : FnScope ["places", "roads", "road", "at"] ["places", "roads"] (defScope s_are_roads) := ⟨rfl, rfl, rfl, by decide +kernel, rfl, by decide +kernel, by decide +kernel⟩
abbrev s_is_road : Stmt := topS 39
theorem sc_is_road : FnScope ["places", "road", "first", "second", "hours", "melt"] ["places", "road"] (defScope s_is_road) := ⟨rfl, rfl, rfl, by decide +kernel, rfl, by decide +kernel, by decide +kernel⟩
abbrev s_are_prices : Stmt := topS 40
theorem sc_are_prices : FnScope ["places", "prices", "price"] ["places", "prices"] (defScope s_are_prices) := ⟨rfl, rfl, rfl, by decide +kernel, rfl, by decide +kernel, by decide +kernel⟩
abbrev s_is_box : Stmt := topS 41
theorem sc_is_box : FnScope ["box"] ["box"] (defScope s_is_box) := ⟨rfl, rfl, rfl, by decide +kernel, rfl, by decide +kernel, by decide +kernel⟩
abbrev s_is_state : Stmt := topS 42
theorem sc_is_state : FnScope ["chart", "state", "room", "bear", "tops", "part", "top"] ["chart", "state"] (defScope s_is_state) := ⟨rfl, rfl, rfl, by decide +kernel, rfl, by decide +kernel, by decide +kernel⟩
abbrev s_check_map : Stmt := topS 43
theorem sc_check_map : FnScope ["chart"] ["chart"] (defScope s_check_map) := ⟨rfl, rfl, rfl, by decide +kernel, rfl, by decide +kernel, by decide +kernel⟩
abbrev s_check_state : Stmt := topS 44
theorem sc_check_state : FnScope ["chart", "state"] ["chart", "state"] (defScope s_check_state) := ⟨rfl, rfl, rfl, by decide +kernel, rfl, by decide +kernel, by decide +kernel⟩
abbrev s_Sure___init__ : Stmt := inClass (topS 46) 0
theorem sc_Sure___init__ : FnScope ["self", "cost", "heights", "levels", "state"] ["self", "cost", "heights", "levels"] (defScope s_Sure___init__) := ⟨rfl, rfl, rfl, by decide +kernel, rfl, by decide +kernel, by decide +kernel⟩
abbrev s_Sure___eq__ : Stmt := inClass (topS 46) 1
theorem sc_Sure___eq__ : FnScope ["self", "other"] ["self", "other"] (defScope s_Sure___eq__) := ⟨rfl, rfl, rfl, by decide +kernel, rfl, by decide +kernel, by decide +kernel⟩
abbrev s_Sure_shows : Stmt := inClass (topS 46) 2
theorem sc_Sure_shows : FnScope ["self", "chart", "state"] ["self", "chart", "state"] (defScope s_Sure_shows) := ⟨rfl, rfl, rfl, by decide +kernel, rfl, by decide +kernel, by decide +kernel⟩
abbrev s_Spoils___init__ : Stmt := inClass (topS 47) 0
theorem sc_Spoils___init__ : FnScope ["self", "states"] ["self", "states"] (defScope s_Spoils___init__) := ⟨rfl, rfl, rfl, by decide +kernel, rfl, by decide +kernel, by decide +kernel⟩
abbrev s_Spoils___eq__ : Stmt := inClass (topS 47) 1
theorem sc_Spoils___eq__ : FnScope ["self", "other"] ["self", "other"] (defScope s_Spoils___eq__) := ⟨rfl, rfl, rfl, by decide +kernel, rfl, by decide +kernel, by decide +kernel⟩
abbrev s_Spoils___iter__ : Stmt := inClass (topS 47) 2
theorem sc_Spoils___iter__ : FnScope ["self"] ["self"] (defScope s_Spoils___iter__) := ⟨rfl, rfl, rfl, by decide +kernel, rfl, by decide +kernel, by decide +kernel⟩
abbrev s_Spoils_shows : Stmt := inClass (topS 47) 3
theorem sc_Spoils_shows : FnScope ["self", "chart", "state"] ["self", "chart", "state"] (defScope s_Spoils_shows) := ⟨rfl, rfl, rfl, by decide +kernel, rfl, by decide +kernel, by decide +kernel⟩
abbrev s_sure : Stmt := topS 48
theorem sc_sure : FnScope ["chart", "state", "costs", "cost"] ["chart", "state"] (defScope s_sure) := ⟨rfl, rfl, rfl, by decide +kernel, rfl, by decide +kernel, by decide +kernel⟩
abbrev s_sure_cost : Stmt := topS 49
theorem sc_sure_cost : FnScope ["chart", "state"] ["chart", "state"] (defScope s_sure_cost) := ⟨rfl, rfl, rfl, by decide +kernel, rfl, by decide +kernel, by decide +kernel⟩
abbrev s_least_costs : Stmt := topS 50
theorem sc_least_costs : FnScope ["chart", "state", "costs"] ["chart", "state"] (defScope s_least_costs) := ⟨rfl, rfl, rfl, by decide +kernel, rfl, by decide +kernel, by decide +kernel⟩
abbrev s_add_least_cost : Stmt := topS 51
theorem sc_add_least_cost : FnScope ["chart", "state", "costs", "least", "move", "ends", "end", "worst", "total"] ["chart", "state", "costs"] (defScope s_add_least_cost) := ⟨rfl, rfl, rfl, by decide +kernel, rfl, by decide +kernel, by decide +kernel⟩
abbrev s_greatest_cost : Stmt := topS 52
theorem sc_greatest_cost : FnScope ["costs", "ends", "found", "end"] ["costs", "ends"] (defScope s_greatest_cost) := ⟨rfl, rfl, rfl, by decide +kernel, rfl, by decide +kernel, by decide +kernel⟩
abbrev s_heights_from : Stmt := topS 53
theorem sc_heights_from : FnScope ["costs", "state"] ["costs"] (defScope s_heights_from) := ⟨rfl, rfl, rfl, by decide +kernel, rfl, by decide +kernel, by decide +kernel⟩
abbrev s_states_without : Stmt := topS 54
theorem sc_states_without : FnScope ["costs", "state"] ["costs"] (defScope s_states_without) := ⟨rfl, rfl, rfl, by decide +kernel, rfl, by decide +kernel, by decide +kernel⟩
abbrev s_levels_up_to : Stmt := topS 55
theorem sc_levels_up_to : FnScope ["costs", "most", "levels", "state"] ["costs", "most"] (defScope s_levels_up_to) := ⟨rfl, rfl, rfl, by decide +kernel, rfl, by decide +kernel, by decide +kernel⟩
abbrev s__law_cell_at : Stmt := topS 57
theorem sc__law_cell_at : FnScope ["_law_script", "_law_k"] ["_law_script", "_law_k"] (defScope s__law_cell_at) := ⟨rfl, rfl, rfl, by decide +kernel, rfl, by decide +kernel, by decide +kernel⟩
abbrev s__law_draw : Stmt := topS 58
theorem sc__law_draw : FnScope ["_law_cell", "_law_k", "_law_bound", "_law_primes"] ["_law_cell", "_law_k", "_law_bound"] (defScope s__law_draw) := ⟨rfl, rfl, rfl, by decide +kernel, rfl, by decide +kernel, by decide +kernel⟩
abbrev s__law_number : Stmt := topS 59
theorem sc__law_number : FnScope ["_law_cell", "_law_k", "_law_bound", "_law_power", "_law_times", "_law_remains", "_law_small"] ["_law_cell", "_law_k", "_law_bound"] (defScope s__law_number) := ⟨rfl, rfl, rfl, by decide +kernel, rfl, by decide +kernel, by decide +kernel⟩
abbrev s__law_next : Stmt := topS 60
theorem sc__law_next : FnScope ["_law_draw_here", "_law_bound", "_law_at", "_law_cell"] ["_law_draw_here", "_law_bound"] (defScope s__law_next) := ⟨rfl, rfl, rfl, by decide +kernel, rfl, by decide +kernel, by decide +kernel⟩
abbrev s__law_pick : Stmt := topS 61
theorem sc__law_pick : FnScope ["_law_draw_here", "_law_things"] ["_law_draw_here", "_law_things"] (defScope s__law_pick) := ⟨rfl, rfl, rfl, by decide +kernel, rfl, by decide +kernel, by decide +kernel⟩
abbrev s__law_map : Stmt := topS 62
theorem sc__law_map : FnScope ["_law_draw_here", "_law_places", "_law_many", "_law_roads", "_law_turn", "_law_first", "_law_last", "_law_place", "_law_prices", "_law_box"] ["_law_draw_here", "_law_places"] (defScope s__law_map) := ⟨rfl, rfl, rfl, by decide +kernel, rfl, by decide +kernel, by decide +kernel⟩
abbrev s__law_state : Stmt := topS 63
theorem sc__law_state : FnScope ["_law_draw_here", "_law_chart", "_law_place", "_law_ice", "_law_warm"] ["_law_draw_here", "_law_chart"] (defScope s__law_state) := ⟨rfl, rfl, rfl, by decide +kernel, rfl, by decide +kernel, by decide +kernel⟩
abbrev s__law_fees : Stmt := topS 64
theorem sc__law_fees : FnScope ["_law_chart", "_law_place", "_law_pieces"] ["_law_chart", "_law_place", "_law_pieces"] (defScope s__law_fees) := ⟨rfl, rfl, rfl, by decide +kernel, rfl, by decide +kernel, by decide +kernel⟩
abbrev s__law_moves : Stmt := topS 65
theorem sc__law_moves : FnScope ["_law_chart", "_law_state_here", "_law_place", "_law_ice", "_law_roads", "_law_found", "_law_pieces", "_law_at", "_law_road"] ["_law_chart", "_law_state_here"] (defScope s__law_moves) := ⟨rfl, rfl, rfl, by decide +kernel, rfl, by decide +kernel, by decide +kernel⟩
abbrev s__law_hours : Stmt := topS 66
theorem sc__law_hours : FnScope ["_law_chart", "_law_ice", "_law_warm", "_law_road", "_law_more", "_law_melt", "_law_hour"] ["_law_chart", "_law_ice", "_law_warm", "_law_road", "_law_more"] (defScope s__law_hours) := ⟨rfl, rfl, rfl, by decide +kernel, rfl, by decide +kernel, by decide +kernel⟩
abbrev s__law_ends : Stmt := topS 67
theorem sc__law_ends : FnScope ["_law_chart", "_law_state_here", "_law_move", "_law_found", "_law_more", "_law_load"] ["_law_chart", "_law_state_here", "_law_move"] (defScope s__law_ends) := ⟨rfl, rfl, rfl, by decide +kernel, rfl, by decide +kernel, by decide +kernel⟩
abbrev s__law_worth : Stmt := topS 68
theorem sc__law_worth : FnScope ["_law_chart", "_law_state_here", "_law_met", "_law_best", "_law_move", "_law_ends_here", "_law_some", "_law_end", "_law_price"] ["_law_chart", "_law_state_here", "_law_met"] (defScope s__law_worth) := ⟨rfl, rfl, rfl, by decide +kernel, rfl, by decide +kernel, by decide +kernel⟩
abbrev s__law_low : Stmt := topS 69
theorem sc__law_low : FnScope ["_law_chart", "_law_heights", "_law_state_here", "_law_move", "_law_rest", "_law_ends_here", "_law_end"] ["_law_chart", "_law_heights", "_law_state_here"] (defScope s__law_low) := ⟨rfl, rfl, rfl, by decide +kernel, rfl, by decide +kernel, by decide +kernel⟩
abbrev s__law_high : Stmt := topS 70
theorem sc__law_high : FnScope ["_law_chart", "_law_levels", "_law_state_here", "_law_move", "_law_ends_here", "_law_some", "_law_end"] ["_law_chart", "_law_levels", "_law_state_here"] (defScope s__law_high) := ⟨rfl, rfl, rfl, by decide +kernel, rfl, by decide +kernel, by decide +kernel⟩
abbrev s__law_right : Stmt := topS 71
theorem sc__law_right : FnScope ["_law_chart", "_law_state_here", "_law_parts", "_law_cost", "_law_heights", "_law_levels", "_law_one"] ["_law_chart", "_law_state_here", "_law_parts"] (defScope s__law_right) := ⟨rfl, rfl, rfl, by decide +kernel, rfl, by decide +kernel, by decide +kernel⟩
abbrev s__law_shut : Stmt := topS 72
theorem sc__law_shut : FnScope ["_law_chart", "_law_state_here", "_law_some", "_law_held", "_law_one", "_law_move", "_law_ends_here", "_law_end"] ["_law_chart", "_law_state_here", "_law_some"] (defScope s__law_shut) := ⟨rfl, rfl, rfl, by decide +kernel, rfl, by decide +kernel, by decide +kernel⟩
abbrev s__law_sure_right : Stmt := topS 73
theorem sc__law_sure_right : FnScope ["_law_draw_here", "_law_chart", "_law_state_here", "_law_found", "_law_cost", "_law_heights", "_law_levels", "_law_rows", "_law_turned", "_law_turn", "_law_bent", "_law_less", "_law_spot", "_law_more", "_law_other", "_law_wild", "_law_number_here", "_law_one", "_law_two", "_law_is_ok"] ["_law_draw_here", "_law_chart", "_law_state_here", "_law_found"] (defScope s__law_sure_right) := ⟨rfl, rfl, rfl, by decide +kernel, rfl, by decide +kernel, by decide +kernel⟩
abbrev s__law_spoils_right : Stmt := topS 74
theorem sc__law_spoils_right : FnScope ["_law_draw_here", "_law_chart", "_law_state_here", "_law_found", "_law_gone", "_law_fewer", "_law_more", "_law_some", "_law_one"] ["_law_draw_here", "_law_chart", "_law_state_here", "_law_found"] (defScope s__law_spoils_right) := ⟨rfl, rfl, rfl, by decide +kernel, rfl, by decide +kernel, by decide +kernel⟩
abbrev s_law : Stmt := topS 75
theorem sc_law : FnScope ["_law_script", "_law_by", "_law_draw_here", "_law_chart", "_law_state_here", "_law_cost", "_law_found"] ["_law_script"] (defScope s_law) := ⟨rfl, rfl, rfl, by decide +kernel, rfl, by decide +kernel, by decide +kernel⟩
/-- what the top has left: where each def stands, and the classes' facts -/
structure Txt (K : PySem.W.Frag) (mg : Str → Option Value) where
  a_is_done : Addr
  fd_is_done : FuncData
  F_is_done : Fun K "is_done" "is_done" s_is_done a_is_done fd_is_done
  b_is_done : Binds K fd_is_done ["chart", "state"] []
  g_is_done : mg "is_done" = some (.ref a_is_done)
  a_roads_from : Addr
  fd_roads_from : FuncData
  F_roads_from : Fun K "roads_from" "roads_from" s_roads_from a_roads_from fd_roads_from
  b_roads_from : Binds K fd_roads_from ["chart", "place"] []
  g_roads_from : mg "roads_from" = some (.ref a_roads_from)
  a_possible_moves : Addr
  fd_possible_moves : FuncData
  F_possible_moves : Fun K "possible_moves" "possible_moves" s_possible_moves a_possible_moves fd_possible_moves
  b_possible_moves : Binds K fd_possible_moves ["chart", "state"] []
  g_possible_moves : mg "possible_moves" = some (.ref a_possible_moves)
  a_pairs_from : Addr
  fd_pairs_from : FuncData
  F_pairs_from : Fun K "pairs_from" "pairs_from" s_pairs_from a_pairs_from fd_pairs_from
  b_pairs_from : Binds K fd_pairs_from ["chart", "place", "most"] []
  g_pairs_from : mg "pairs_from" = some (.ref a_pairs_from)
  a_move_cost : Addr
  fd_move_cost : FuncData
  F_move_cost : Fun K "move_cost" "move_cost" s_move_cost a_move_cost fd_move_cost
  b_move_cost : Binds K fd_move_cost ["chart", "state", "move"] []
  g_move_cost : mg "move_cost" = some (.ref a_move_cost)
  a_pieces_cost : Addr
  fd_pieces_cost : FuncData
  F_pieces_cost : Fun K "pieces_cost" "pieces_cost" s_pieces_cost a_pieces_cost fd_pieces_cost
  b_pieces_cost : Binds K fd_pieces_cost ["chart", "place", "pieces"] []
  g_pieces_cost : mg "pieces_cost" = some (.ref a_pieces_cost)
  a_after_hour : Addr
  fd_after_hour : FuncData
  F_after_hour : Fun K "after_hour" "after_hour" s_after_hour a_after_hour fd_after_hour
  b_after_hour : Binds K fd_after_hour ["ice", "warm", "melt"] []
  g_after_hour : mg "after_hour" = some (.ref a_after_hour)
  a_move_results : Addr
  fd_move_results : FuncData
  F_move_results : Fun K "move_results" "move_results" s_move_results a_move_results fd_move_results
  b_move_results : Binds K fd_move_results ["chart", "state", "move"] []
  g_move_results : mg "move_results" = some (.ref a_move_results)
  a_is_within : Addr
  fd_is_within : FuncData
  F_is_within : Fun K "is_within" "is_within" s_is_within a_is_within fd_is_within
  b_is_within : Binds K fd_is_within ["heights", "state", "most"] []
  g_is_within : mg "is_within" = some (.ref a_is_within)
  a_is_reached : Addr
  fd_is_reached : FuncData
  F_is_reached : Fun K "is_reached" "is_reached" s_is_reached a_is_reached fd_is_reached
  b_is_reached : Binds K fd_is_reached ["levels", "state", "number"] []
  g_is_reached : mg "is_reached" = some (.ref a_is_reached)
  a_heights_hold : Addr
  fd_heights_hold : FuncData
  F_heights_hold : Fun K "heights_hold" "heights_hold" s_heights_hold a_heights_hold fd_heights_hold
  b_heights_hold : Binds K fd_heights_hold ["chart", "heights"] []
  g_heights_hold : mg "heights_hold" = some (.ref a_heights_hold)
  a_height_holds : Addr
  fd_height_holds : FuncData
  F_height_holds : Fun K "height_holds" "height_holds" s_height_holds a_height_holds fd_height_holds
  b_height_holds : Binds K fd_height_holds ["chart", "heights", "state"] []
  g_height_holds : mg "height_holds" = some (.ref a_height_holds)
  a_are_within : Addr
  fd_are_within : FuncData
  F_are_within : Fun K "are_within" "are_within" s_are_within a_are_within fd_are_within
  b_are_within : Binds K fd_are_within ["heights", "ends", "most"] []
  g_are_within : mg "are_within" = some (.ref a_are_within)
  a_levels_hold : Addr
  fd_levels_hold : FuncData
  F_levels_hold : Fun K "levels_hold" "levels_hold" s_levels_hold a_levels_hold fd_levels_hold
  b_levels_hold : Binds K fd_levels_hold ["chart", "levels"] []
  g_levels_hold : mg "levels_hold" = some (.ref a_levels_hold)
  a_level_holds : Addr
  fd_level_holds : FuncData
  F_level_holds : Fun K "level_holds" "level_holds" s_level_holds a_level_holds fd_level_holds
  b_level_holds : Binds K fd_level_holds ["chart", "levels", "state"] []
  g_level_holds : mg "level_holds" = some (.ref a_level_holds)
  a_greatest_level : Addr
  fd_greatest_level : FuncData
  F_greatest_level : Fun K "greatest_level" "greatest_level" s_greatest_level a_greatest_level fd_greatest_level
  b_greatest_level : Binds K fd_greatest_level ["levels", "ends"] []
  g_greatest_level : mg "greatest_level" = some (.ref a_greatest_level)
  a_states_spoil : Addr
  fd_states_spoil : FuncData
  F_states_spoil : Fun K "states_spoil" "states_spoil" s_states_spoil a_states_spoil fd_states_spoil
  b_states_spoil : Binds K fd_states_spoil ["chart", "states"] []
  g_states_spoil : mg "states_spoil" = some (.ref a_states_spoil)
  a_state_spoils : Addr
  fd_state_spoils : FuncData
  F_state_spoils : Fun K "state_spoils" "state_spoils" s_state_spoils a_state_spoils fd_state_spoils
  b_state_spoils : Binds K fd_state_spoils ["chart", "held", "state"] []
  g_state_spoils : mg "state_spoils" = some (.ref a_state_spoils)
  a_is_whole : Addr
  fd_is_whole : FuncData
  F_is_whole : Fun K "is_whole" "is_whole" s_is_whole a_is_whole fd_is_whole
  b_is_whole : Binds K fd_is_whole ["value"] []
  g_is_whole : mg "is_whole" = some (.ref a_is_whole)
  a_is_between : Addr
  fd_is_between : FuncData
  F_is_between : Fun K "is_between" "is_between" s_is_between a_is_between fd_is_between
  b_is_between : Binds K fd_is_between ["value", "low", "high"] []
  g_is_between : mg "is_between" = some (.ref a_is_between)
  a_is_group : Addr
  fd_is_group : FuncData
  F_is_group : Fun K "is_group" "is_group" s_is_group a_is_group fd_is_group
  b_is_group : Binds K fd_is_group ["value", "size"] []
  g_is_group : mg "is_group" = some (.ref a_is_group)
  a_Map___init__ : Addr
  fd_Map___init__ : FuncData
  F_Map___init__ : Fun K "__init__" "Map.__init__" s_Map___init__ a_Map___init__ fd_Map___init__
  b_Map___init__ : Binds K fd_Map___init__ ["self", "places", "roads", "prices", "box"] []
  a_Map_places : Addr
  fd_Map_places : FuncData
  F_Map_places : Fun K "places" "Map.places" s_Map_places a_Map_places fd_Map_places
  b_Map_places : Binds K fd_Map_places ["self"] []
  a_Map_roads : Addr
  fd_Map_roads : FuncData
  F_Map_roads : Fun K "roads" "Map.roads" s_Map_roads a_Map_roads fd_Map_roads
  b_Map_roads : Binds K fd_Map_roads ["self"] []
  a_Map_prices : Addr
  fd_Map_prices : FuncData
  F_Map_prices : Fun K "prices" "Map.prices" s_Map_prices a_Map_prices fd_Map_prices
  b_Map_prices : Binds K fd_Map_prices ["self"] []
  a_Map_box : Addr
  fd_Map_box : FuncData
  F_Map_box : Fun K "box" "Map.box" s_Map_box a_Map_box fd_Map_box
  b_Map_box : Binds K fd_Map_box ["self"] []
  a_Map___len__ : Addr
  fd_Map___len__ : FuncData
  F_Map___len__ : Fun K "__len__" "Map.__len__" s_Map___len__ a_Map___len__ fd_Map___len__
  b_Map___len__ : Binds K fd_Map___len__ ["self"] []
  a_are_roads : Addr
  fd_are_roads : FuncData
  F_are_roads : Fun K "are_roads" "are_roads" s_are_roads a_are_roads fd_are_roads
  b_are_roads : Binds K fd_are_roads ["places", "roads"] []
  g_are_roads : mg "are_roads" = some (.ref a_are_roads)
  a_is_road : Addr
  fd_is_road : FuncData
  F_is_road : Fun K "is_road" "is_road" s_is_road a_is_road fd_is_road
  b_is_road : Binds K fd_is_road ["places", "road"] []
  g_is_road : mg "is_road" = some (.ref a_is_road)
  a_are_prices : Addr
  fd_are_prices : FuncData
  F_are_prices : Fun K "are_prices" "are_prices" s_are_prices a_are_prices fd_are_prices
  b_are_prices : Binds K fd_are_prices ["places", "prices"] []
  g_are_prices : mg "are_prices" = some (.ref a_are_prices)
  a_is_box : Addr
  fd_is_box : FuncData
  F_is_box : Fun K "is_box" "is_box" s_is_box a_is_box fd_is_box
  b_is_box : Binds K fd_is_box ["box"] []
  g_is_box : mg "is_box" = some (.ref a_is_box)
  a_is_state : Addr
  fd_is_state : FuncData
  F_is_state : Fun K "is_state" "is_state" s_is_state a_is_state fd_is_state
  b_is_state : Binds K fd_is_state ["chart", "state"] []
  g_is_state : mg "is_state" = some (.ref a_is_state)
  a_check_map : Addr
  fd_check_map : FuncData
  F_check_map : Fun K "check_map" "check_map" s_check_map a_check_map fd_check_map
  b_check_map : Binds K fd_check_map ["chart"] []
  g_check_map : mg "check_map" = some (.ref a_check_map)
  a_check_state : Addr
  fd_check_state : FuncData
  F_check_state : Fun K "check_state" "check_state" s_check_state a_check_state fd_check_state
  b_check_state : Binds K fd_check_state ["chart", "state"] []
  g_check_state : mg "check_state" = some (.ref a_check_state)
  a_Sure___init__ : Addr
  fd_Sure___init__ : FuncData
  F_Sure___init__ : Fun K "__init__" "Sure.__init__" s_Sure___init__ a_Sure___init__ fd_Sure___init__
  b_Sure___init__ : Binds K fd_Sure___init__ ["self", "cost", "heights", "levels"] []
  a_Sure___eq__ : Addr
  fd_Sure___eq__ : FuncData
  F_Sure___eq__ : Fun K "__eq__" "Sure.__eq__" s_Sure___eq__ a_Sure___eq__ fd_Sure___eq__
  b_Sure___eq__ : Binds K fd_Sure___eq__ ["self", "other"] []
  a_Sure_shows : Addr
  fd_Sure_shows : FuncData
  F_Sure_shows : Fun K "shows" "Sure.shows" s_Sure_shows a_Sure_shows fd_Sure_shows
  b_Sure_shows : Binds K fd_Sure_shows ["self", "chart", "state"] []
  a_Spoils___init__ : Addr
  fd_Spoils___init__ : FuncData
  F_Spoils___init__ : Fun K "__init__" "Spoils.__init__" s_Spoils___init__ a_Spoils___init__ fd_Spoils___init__
  b_Spoils___init__ : Binds K fd_Spoils___init__ ["self", "states"] []
  a_Spoils___eq__ : Addr
  fd_Spoils___eq__ : FuncData
  F_Spoils___eq__ : Fun K "__eq__" "Spoils.__eq__" s_Spoils___eq__ a_Spoils___eq__ fd_Spoils___eq__
  b_Spoils___eq__ : Binds K fd_Spoils___eq__ ["self", "other"] []
  a_Spoils___iter__ : Addr
  fd_Spoils___iter__ : FuncData
  F_Spoils___iter__ : Fun K "__iter__" "Spoils.__iter__" s_Spoils___iter__ a_Spoils___iter__ fd_Spoils___iter__
  b_Spoils___iter__ : Binds K fd_Spoils___iter__ ["self"] []
  a_Spoils_shows : Addr
  fd_Spoils_shows : FuncData
  F_Spoils_shows : Fun K "shows" "Spoils.shows" s_Spoils_shows a_Spoils_shows fd_Spoils_shows
  b_Spoils_shows : Binds K fd_Spoils_shows ["self", "chart", "state"] []
  a_sure : Addr
  fd_sure : FuncData
  F_sure : Fun K "sure" "sure" s_sure a_sure fd_sure
  b_sure : Binds K fd_sure ["chart", "state"] []
  g_sure : mg "sure" = some (.ref a_sure)
  a_sure_cost : Addr
  fd_sure_cost : FuncData
  F_sure_cost : Fun K "sure_cost" "sure_cost" s_sure_cost a_sure_cost fd_sure_cost
  b_sure_cost : Binds K fd_sure_cost ["chart", "state"] []
  g_sure_cost : mg "sure_cost" = some (.ref a_sure_cost)
  a_least_costs : Addr
  fd_least_costs : FuncData
  F_least_costs : Fun K "least_costs" "least_costs" s_least_costs a_least_costs fd_least_costs
  b_least_costs : Binds K fd_least_costs ["chart", "state"] []
  g_least_costs : mg "least_costs" = some (.ref a_least_costs)
  a_add_least_cost : Addr
  fd_add_least_cost : FuncData
  F_add_least_cost : Fun K "add_least_cost" "add_least_cost" s_add_least_cost a_add_least_cost fd_add_least_cost
  b_add_least_cost : Binds K fd_add_least_cost ["chart", "state", "costs"] []
  g_add_least_cost : mg "add_least_cost" = some (.ref a_add_least_cost)
  a_greatest_cost : Addr
  fd_greatest_cost : FuncData
  F_greatest_cost : Fun K "greatest_cost" "greatest_cost" s_greatest_cost a_greatest_cost fd_greatest_cost
  b_greatest_cost : Binds K fd_greatest_cost ["costs", "ends"] []
  g_greatest_cost : mg "greatest_cost" = some (.ref a_greatest_cost)
  a_heights_from : Addr
  fd_heights_from : FuncData
  F_heights_from : Fun K "heights_from" "heights_from" s_heights_from a_heights_from fd_heights_from
  b_heights_from : Binds K fd_heights_from ["costs"] []
  g_heights_from : mg "heights_from" = some (.ref a_heights_from)
  a_states_without : Addr
  fd_states_without : FuncData
  F_states_without : Fun K "states_without" "states_without" s_states_without a_states_without fd_states_without
  b_states_without : Binds K fd_states_without ["costs"] []
  g_states_without : mg "states_without" = some (.ref a_states_without)
  a_levels_up_to : Addr
  fd_levels_up_to : FuncData
  F_levels_up_to : Fun K "levels_up_to" "levels_up_to" s_levels_up_to a_levels_up_to fd_levels_up_to
  b_levels_up_to : Binds K fd_levels_up_to ["costs", "most"] []
  g_levels_up_to : mg "levels_up_to" = some (.ref a_levels_up_to)
  a__law_cell_at : Addr
  fd__law_cell_at : FuncData
  F__law_cell_at : Fun K "_law_cell_at" "_law_cell_at" s__law_cell_at a__law_cell_at fd__law_cell_at
  b__law_cell_at : Binds K fd__law_cell_at ["_law_script", "_law_k"] []
  g__law_cell_at : mg "_law_cell_at" = some (.ref a__law_cell_at)
  a__law_draw : Addr
  fd__law_draw : FuncData
  F__law_draw : Fun K "_law_draw" "_law_draw" s__law_draw a__law_draw fd__law_draw
  b__law_draw : Binds K fd__law_draw ["_law_cell", "_law_k", "_law_bound"] []
  g__law_draw : mg "_law_draw" = some (.ref a__law_draw)
  a__law_number : Addr
  fd__law_number : FuncData
  F__law_number : Fun K "_law_number" "_law_number" s__law_number a__law_number fd__law_number
  b__law_number : Binds K fd__law_number ["_law_cell", "_law_k", "_law_bound"] []
  g__law_number : mg "_law_number" = some (.ref a__law_number)
  a__law_next : Addr
  fd__law_next : FuncData
  F__law_next : Fun K "_law_next" "_law_next" s__law_next a__law_next fd__law_next
  b__law_next : Binds K fd__law_next ["_law_draw_here", "_law_bound"] []
  g__law_next : mg "_law_next" = some (.ref a__law_next)
  a__law_pick : Addr
  fd__law_pick : FuncData
  F__law_pick : Fun K "_law_pick" "_law_pick" s__law_pick a__law_pick fd__law_pick
  b__law_pick : Binds K fd__law_pick ["_law_draw_here", "_law_things"] []
  g__law_pick : mg "_law_pick" = some (.ref a__law_pick)
  a__law_map : Addr
  fd__law_map : FuncData
  F__law_map : Fun K "_law_map" "_law_map" s__law_map a__law_map fd__law_map
  b__law_map : Binds K fd__law_map ["_law_draw_here", "_law_places"] []
  g__law_map : mg "_law_map" = some (.ref a__law_map)
  a__law_state : Addr
  fd__law_state : FuncData
  F__law_state : Fun K "_law_state" "_law_state" s__law_state a__law_state fd__law_state
  b__law_state : Binds K fd__law_state ["_law_draw_here", "_law_chart"] []
  g__law_state : mg "_law_state" = some (.ref a__law_state)
  a__law_fees : Addr
  fd__law_fees : FuncData
  F__law_fees : Fun K "_law_fees" "_law_fees" s__law_fees a__law_fees fd__law_fees
  b__law_fees : Binds K fd__law_fees ["_law_chart", "_law_place", "_law_pieces"] []
  g__law_fees : mg "_law_fees" = some (.ref a__law_fees)
  a__law_moves : Addr
  fd__law_moves : FuncData
  F__law_moves : Fun K "_law_moves" "_law_moves" s__law_moves a__law_moves fd__law_moves
  b__law_moves : Binds K fd__law_moves ["_law_chart", "_law_state_here"] []
  g__law_moves : mg "_law_moves" = some (.ref a__law_moves)
  a__law_hours : Addr
  fd__law_hours : FuncData
  F__law_hours : Fun K "_law_hours" "_law_hours" s__law_hours a__law_hours fd__law_hours
  b__law_hours : Binds K fd__law_hours ["_law_chart", "_law_ice", "_law_warm", "_law_road", "_law_more"] []
  g__law_hours : mg "_law_hours" = some (.ref a__law_hours)
  a__law_ends : Addr
  fd__law_ends : FuncData
  F__law_ends : Fun K "_law_ends" "_law_ends" s__law_ends a__law_ends fd__law_ends
  b__law_ends : Binds K fd__law_ends ["_law_chart", "_law_state_here", "_law_move"] []
  g__law_ends : mg "_law_ends" = some (.ref a__law_ends)
  a__law_worth : Addr
  fd__law_worth : FuncData
  F__law_worth : Fun K "_law_worth" "_law_worth" s__law_worth a__law_worth fd__law_worth
  b__law_worth : Binds K fd__law_worth ["_law_chart", "_law_state_here", "_law_met"] []
  g__law_worth : mg "_law_worth" = some (.ref a__law_worth)
  a__law_low : Addr
  fd__law_low : FuncData
  F__law_low : Fun K "_law_low" "_law_low" s__law_low a__law_low fd__law_low
  b__law_low : Binds K fd__law_low ["_law_chart", "_law_heights", "_law_state_here"] []
  g__law_low : mg "_law_low" = some (.ref a__law_low)
  a__law_high : Addr
  fd__law_high : FuncData
  F__law_high : Fun K "_law_high" "_law_high" s__law_high a__law_high fd__law_high
  b__law_high : Binds K fd__law_high ["_law_chart", "_law_levels", "_law_state_here"] []
  g__law_high : mg "_law_high" = some (.ref a__law_high)
  a__law_right : Addr
  fd__law_right : FuncData
  F__law_right : Fun K "_law_right" "_law_right" s__law_right a__law_right fd__law_right
  b__law_right : Binds K fd__law_right ["_law_chart", "_law_state_here", "_law_parts"] []
  g__law_right : mg "_law_right" = some (.ref a__law_right)
  a__law_shut : Addr
  fd__law_shut : FuncData
  F__law_shut : Fun K "_law_shut" "_law_shut" s__law_shut a__law_shut fd__law_shut
  b__law_shut : Binds K fd__law_shut ["_law_chart", "_law_state_here", "_law_some"] []
  g__law_shut : mg "_law_shut" = some (.ref a__law_shut)
  a__law_sure_right : Addr
  fd__law_sure_right : FuncData
  F__law_sure_right : Fun K "_law_sure_right" "_law_sure_right" s__law_sure_right a__law_sure_right fd__law_sure_right
  b__law_sure_right : Binds K fd__law_sure_right ["_law_draw_here", "_law_chart", "_law_state_here", "_law_found"] []
  g__law_sure_right : mg "_law_sure_right" = some (.ref a__law_sure_right)
  a__law_spoils_right : Addr
  fd__law_spoils_right : FuncData
  F__law_spoils_right : Fun K "_law_spoils_right" "_law_spoils_right" s__law_spoils_right a__law_spoils_right fd__law_spoils_right
  b__law_spoils_right : Binds K fd__law_spoils_right ["_law_draw_here", "_law_chart", "_law_state_here", "_law_found"] []
  g__law_spoils_right : mg "_law_spoils_right" = some (.ref a__law_spoils_right)
  a_law : Addr
  fd_law : FuncData
  F_law : Fun K "law" "law" s_law a_law fd_law
  b_law : Binds K fd_law ["_law_script"] []
  g_law : mg "law" = some (.ref a_law)
  C_Map : Addr
  g_Map : mg "Map" = some (.ref C_Map)
  T_Map : ClsT K C_Map
  mk_Map : Mk K C_Map a_Map___init__
  na_Map__places : NoAttr K C_Map "_places"
  na_Map__roads : NoAttr K C_Map "_roads"
  na_Map__prices : NoAttr K C_Map "_prices"
  na_Map__box : NoAttr K C_Map "_box"
  p_Map_places : Addr
  PO_places : PropOf K C_Map "places" p_Map_places a_Map_places
  p_Map_roads : Addr
  PO_roads : PropOf K C_Map "roads" p_Map_roads a_Map_roads
  p_Map_prices : Addr
  PO_prices : PropOf K C_Map "prices" p_Map_prices a_Map_prices
  p_Map_box : Addr
  PO_box : PropOf K C_Map "box" p_Map_box a_Map_box
  L_Map : Meth K C_Map "__len__" a_Map___len__
  C_Sure : Addr
  g_Sure : mg "Sure" = some (.ref C_Sure)
  T_Sure : ClsT K C_Sure
  mk_Sure : Mk K C_Sure a_Sure___init__
  na_Sure_cost : NoAttr K C_Sure "cost"
  na_Sure_heights : NoAttr K C_Sure "heights"
  na_Sure_levels : NoAttr K C_Sure "levels"
  M_Sure___eq__ : Meth K C_Sure "__eq__" a_Sure___eq__
  M_Sure_shows : Meth K C_Sure "shows" a_Sure_shows
  C_Spoils : Addr
  g_Spoils : mg "Spoils" = some (.ref C_Spoils)
  T_Spoils : ClsT K C_Spoils
  mk_Spoils : Mk K C_Spoils a_Spoils___init__
  na_Spoils_states : NoAttr K C_Spoils "states"
  M_Spoils___eq__ : Meth K C_Spoils "__eq__" a_Spoils___eq__
  nl_Spoils : NoAttr K C_Spoils "__len__"
  nh_Spoils : NoAttr K C_Spoils "__length_hint__"
  M_Spoils___iter__ : Meth K C_Spoils "__iter__" a_Spoils___iter__
  M_Spoils_shows : Meth K C_Spoils "shows" a_Spoils_shows
  n_len : mg "len" = none
  n_range : mg "range" = none
  n_isinstance : mg "isinstance" = none
  n_all : mg "all" = none
  n_any : mg "any" = none
  n_zip : mg "zip" = none
  n_enumerate : mg "enumerate" = none
  n_sorted : mg "sorted" = none
  n_set : mg "set" = none
  n_max : mg "max" = none
  n_min : mg "min" = none
  n_int : mg "int" = none
  n_bool : mg "bool" = none
  n_tuple : mg "tuple" = none
  n_list : mg "list" = none
  n_dict : mg "dict" = none
  n_iter : mg "iter" = none
  k_MOST_PLACES : ∃ t, mg "MOST_PLACES" = some (.int 5 t)
  k_MOST_ROADS : ∃ t, mg "MOST_ROADS" = some (.int 7 t)
  k_MOST_HOURS : ∃ t, mg "MOST_HOURS" = some (.int 4 t)
  k_MOST_MELT : ∃ t, mg "MOST_MELT" = some (.int 3 t)
  k_MOST_PRICE : ∃ t, mg "MOST_PRICE" = some (.int 9 t)
  k_MOST_ROOM : ∃ t, mg "MOST_ROOM" = some (.int 6 t)
  k_MOST_BEAR : ∃ t, mg "MOST_BEAR" = some (.int 2 t)
  k_MOST_LATE : ∃ t, mg "MOST_LATE" = some (.int 4 t)
section
variable {X : Cx}
theorem pe_globI {x : Str} {i : Int} {pos : Pos} (hg : Gl X x) (h : ∃ t, X.mg x = some (.int i t)) (hd : (x == ("__debug__" : Str)) = false := by decide) : PE X (.Name x pos) (tC (.int i)) := by
  obtain ⟨t, h⟩ := h
  exact pe_glob hg h ⟨t, rfl⟩ hd
end
end K2
end
section
set_option Elab.async false
set_option linter.all false
set_option maxRecDepth 100000
set_option maxHeartbeats 4000000
namespace K2
open PySem PySem.Spec PyProof.Rows L2 DL
section
variable {P : Program} {w : World} {K : PySem.W.Frag} {mg : Str → Option Value} {base : Heap} {k : Nat}
theorem Txt.cl (T : Txt K mg) : Cls K T.C_Map := T.T_Map.cl
/-! getters -/
theorem get_places (T : Txt K mg) : FnOk P w K mg base CX0 (k + 1) T.a_Map_places T.fd_Map_places ["self"] (getSp T.C_Map "_places") := by
  refine T.F_Map_places.ok sc_Map_places (fun vs H Q E h => ?_) (fun cdv A outer s H vs Q E hr h => ?_)
  · obtain ⟨a, dx, fs, v, e, _⟩ := h
    rw [e]
    rfl
  · obtain ⟨a, dx, fs, v, rfl, ea, l, q⟩ := h
    refine ⟨_, pss_one (ps_ret (pe_fld (pv 0) rfl)), ?_⟩
    exact ⟨.ref a, rfl, a, T.C_Map, dx, fs, v, rfl, ea, T.cl, T.na_Map__places, l, q⟩
theorem get_roads (T : Txt K mg) : FnOk P w K mg base CX0 (k + 1) T.a_Map_roads T.fd_Map_roads ["self"] (getSp T.C_Map "_roads") := by
  refine T.F_Map_roads.ok sc_Map_roads (fun vs H Q E h => ?_) (fun cdv A outer s H vs Q E hr h => ?_)
  · obtain ⟨a, dx, fs, v, e, _⟩ := h
    rw [e]
    rfl
  · obtain ⟨a, dx, fs, v, rfl, ea, l, q⟩ := h
    refine ⟨_, pss_one (ps_ret (pe_fld (pv 0) rfl)), ?_⟩
    exact ⟨.ref a, rfl, a, T.C_Map, dx, fs, v, rfl, ea, T.cl, T.na_Map__roads, l, q⟩
theorem get_prices (T : Txt K mg) : FnOk P w K mg base CX0 (k + 1) T.a_Map_prices T.fd_Map_prices ["self"] (getSp T.C_Map "_prices") := by
  refine T.F_Map_prices.ok sc_Map_prices (fun vs H Q E h => ?_) (fun cdv A outer s H vs Q E hr h => ?_)
  · obtain ⟨a, dx, fs, v, e, _⟩ := h
    rw [e]
    rfl
  · obtain ⟨a, dx, fs, v, rfl, ea, l, q⟩ := h
    refine ⟨_, pss_one (ps_ret (pe_fld (pv 0) rfl)), ?_⟩
    exact ⟨.ref a, rfl, a, T.C_Map, dx, fs, v, rfl, ea, T.cl, T.na_Map__prices, l, q⟩
theorem get_box (T : Txt K mg) : FnOk P w K mg base CX0 (k + 1) T.a_Map_box T.fd_Map_box ["self"] (getSp T.C_Map "_box") := by
  refine T.F_Map_box.ok sc_Map_box (fun vs H Q E h => ?_) (fun cdv A outer s H vs Q E hr h => ?_)
  · obtain ⟨a, dx, fs, v, e, _⟩ := h
    rw [e]
    rfl
  · obtain ⟨a, dx, fs, v, rfl, ea, l, q⟩ := h
    refine ⟨_, pss_one (ps_ret (pe_fld (pv 0) rfl)), ?_⟩
    exact ⟨.ref a, rfl, a, T.C_Map, dx, fs, v, rfl, ea, T.cl, T.na_Map__box, l, q⟩
/-! is_whole -/
def isWhole : D → Bool
  | .int _ => true
  | _ => false
def R_is_whole (ds : List D) (d : D) : Prop := ∃ v T, ds = [v] ∧ v.tyn = some T ∧ d = .bl (isWhole v)
theorem ok_is_whole (T : Txt K mg) : FnOk P w K mg base CX0 1 T.a_is_whole T.fd_is_whole ["value"] (spP K 1 R_is_whole) := by
  refine fnP T.F_is_whole sc_is_whole rfl (fun cdv A outer s H E hr => ?_)
  refine ⟨_, (pss_one (ps_ret (pe_and (pe_callB (callIsi K) (by rfl) T.n_isinstance (by decide +kernel) (pa_cons (pv 0) (pa_cons (pe_bltn (v := .ty "int") (by rfl) T.n_int (by decide +kernel) rfl) pa_nil))) (pe_one (pe_not (pe_callB (callIsi K) (by rfl) T.n_isinstance (by decide +kernel) (pa_cons (pv 0) (pa_cons (pe_bltn (v := .ty "bool") (by rfl) T.n_bool (by decide +kernel) rfl) pa_nil)))))))), ?_⟩
  rintro ds d ⟨v, T, rfl, hv, rfl⟩ -
  refine .rt (ds_ret ?_)
  have hi : ∀ {c b}, kitB T c = some b → DT K (tCB (rIsi K) (tCons (tVar 0) (tCons (tC (.ty c)) tNil))) [some (.dat v)] [] (.dat (.bl b)) [] := fun h => dt_isi (dt_var rfl) hv h
  cases v with
  | non => cases hv; exact dt_andV_f (hi (by decide +kernel))
  | bl b => cases hv; exact dt_andV_t (b := false) (hi (by decide +kernel)) (dt_notV (b := true) (hi (by decide +kernel)))
  | int i => cases hv; exact dt_andV_t (b := true) (hi (by decide +kernel)) (dt_notV (b := false) (hi (by decide +kernel)))
  | str x => cases hv; exact dt_andV_f (hi (by decide +kernel))
  | lst x => cases hv; exact dt_andV_f (hi (by decide +kernel))
  | tup x => cases hv; exact dt_andV_f (hi (by decide +kernel))
  | obj C x => cases hv
  | ctp x => cases hv
  | dic x => cases hv
  | rls x => cases hv
/-! is_between, for ints -/
def R_is_between (ds : List D) (d : D) : Prop := ∃ i lo hi, ds = [.int i, .int lo, .int hi] ∧ d = .bl (decide (lo ≤ i) && decide (i ≤ hi))
theorem ok_is_between (T : Txt K mg) : FnOk P w K mg base CX0 2 T.a_is_between T.fd_is_between ["value", "low", "high"] (spP K 3 R_is_between) := by
  refine fnP T.F_is_between sc_is_between rfl (fun cdv A outer s H E hr => ?_)
  refine ⟨_, (pss_one (ps_ret (pe_and (pe_call (ok_is_whole T) (hr.mono (by decide)) (by rfl) T.g_is_whole T.F_is_whole.kp T.b_is_whole .nil pass0 (pa_cons (pv 0) pa_nil)) (pe_one (pe_chain op_le op_le (pv 1) (pv 0) (pv 2)))))), ?_⟩
  rintro ds d ⟨i, lo, hi, rfl, rfl⟩ -
  exact .rt (ds_ret (dt_andV_t (b := true) (dt_call (da_cons (dt_var rfl) da_nil) ⟨_, _, rfl, rfl, rfl⟩) (dt_chain (dt_var rfl) (dt_var rfl) (dt_var rfl))))
/-! is_group, for tuples -/
def R_is_group (ds : List D) (d : D) : Prop := ∃ es n, ds = [.tup es, .int n] ∧ d = .bl (decide ((es.length : Int) = n))
theorem ok_is_group (T : Txt K mg) : FnOk P w K mg base CX0 1 T.a_is_group T.fd_is_group ["value", "size"] (spP K 2 R_is_group) := by
  refine fnP T.F_is_group sc_is_group rfl (fun cdv A outer s H E hr => ?_)
  refine ⟨_, (pss_one (ps_ret (pe_and (pe_callB (callIsi K) (by rfl) T.n_isinstance (by decide +kernel) (pa_cons (pv 0) (pa_cons (pe_bltn (v := .ty "tuple") (by rfl) T.n_tuple (by decide +kernel) rfl) pa_nil))) (pe_one (pe_cmpR op_eq (pe_callB (callLen K) (by rfl) T.n_len PySem.boot_len (pa_cons (pv 0) pa_nil)) (pv 1) (nomark _)))))), ?_⟩
  rintro ds d ⟨es, n, rfl, rfl⟩ -
  exact .rt (ds_ret (dt_andV_t (b := true) (dt_isi (dt_var rfl) rfl (by decide +kernel)) (dt_eqI (dt_lenT (dt_var rfl)) (dt_var rfl))))
end
end K2
end
section
set_option Elab.async false
set_option linter.all false
set_option maxRecDepth 100000
set_option maxHeartbeats 4000000
namespace K2
open PySem PySem.Spec PyProof.Rows L2 DL
/-! ### the mathematics: maps, states, moves, results -/
structure Road where
  a : Int
  b : Int
  h : Int
  m : Int
structure MapD where
  places : Int
  roads : List Road
  prices : List (Option Int)
  room : Int
  bear : Int
structure StD where
  p : Int
  i : Int
  w : Int
  l : Int
def Road.row (r : Road) : List Int := [r.a, r.b, r.h, r.m]
def roadD (r : Road) : D := .tup [.int r.a, .int r.b, .int r.h, .int r.m]
def optD : Option Int → D
  | none => .non
  | some p => .int p
def mapFs (M : MapD) : List (Str × D) := [("_places", .int M.places), ("_roads", .tup (M.roads.map roadD)), ("_prices", .tup (M.prices.map optD)), ("_box", .tup [.int M.room, .int M.bear])]
def mapD (C : Addr) (M : MapD) : D := .obj C (mapFs M)
def stD (s : StD) : D := .tup [.int s.p, .int s.i, .int s.w, .int s.l]
def MapD.road (M : MapD) (i : Nat) : Road := M.roads.getD i ⟨0, 0, 0, 0⟩
def MapD.price (M : MapD) (p : Int) : Option Int := M.prices.getD p.toNat none
structure Road.Ok (n : Int) (r : Road) : Prop where
  a0 : 0 ≤ r.a
  ab : r.a < r.b
  bn : r.b ≤ n - 1
  h1 : 1 ≤ r.h
  h4 : r.h ≤ 4
  m0 : 0 ≤ r.m
  m3 : r.m ≤ 3
structure MapD.Ok (M : MapD) : Prop where
  p2 : 2 ≤ M.places
  p5 : M.places ≤ 5
  r1 : 1 ≤ M.roads.length
  r7 : M.roads.length ≤ 7
  rd : ∀ r ∈ M.roads, r.Ok M.places
  asc : ∀ i, i + 1 < M.roads.length → HT.lexLt (M.road i).row (M.road (i + 1)).row = true
  pl : (M.prices.length : Int) = M.places
  pr : ∀ p ∈ M.prices, ∀ x, p = some x → 1 ≤ x ∧ x ≤ 9
  m1 : 1 ≤ M.room
  m6 : M.room ≤ 6
  b0 : 0 ≤ M.bear
  b2 : M.bear ≤ 2
structure StD.Ok (M : MapD) (s : StD) : Prop where
  p0 : 0 ≤ s.p
  p1 : s.p ≤ M.places - 1
  i0 : 0 ≤ s.i
  i1 : s.i ≤ M.room
  w0 : 0 ≤ s.w
  w1 : s.w ≤ M.bear
  l0 : 0 ≤ s.l
  l1 : s.l ≤ 4
/-- the roads that lead from a place -/
def MapD.lead (M : MapD) (p : Int) : List Nat := (List.range M.roads.length).filter fun i => decide ((M.road i).a = p)
def MapD.most (M : MapD) (s : StD) : Int := if M.price s.p = none then 0 else M.room - s.i
def mvD (pieces : Nat) (r : Nat) : D := .tup [.int (pieces : Nat), .int (r : Nat)]
def MapD.moves (M : MapD) (s : StD) : List D := (List.range (M.most s + 1).toNat).flatMap fun i => (M.lead s.p).map (mvD i)
/-- the pairs of at most so many pieces and a road at a place -/
def MapD.top (M : MapD) (p most : Int) : Int := if M.price p = none then 0 else most
def MapD.pairs (M : MapD) (p most : Int) : List D := (List.range (M.top p most + 1).toNat).flatMap fun i => (M.lead p).map (mvD i)
/-- one hour -/
def hour (m : Int) (x : Int × Int) : Int × Int := if x.1 ≥ m then (x.1 - m, x.2) else (0, x.2 + 1)
def hours (m : Int) (x : Int × Int) : Nat → Int × Int
  | 0 => x
  | n + 1 => hour m (hours m x n)
def endD (M : MapD) (r : Road) (l : Int) (x : Int × Int) (more : Nat) : D := if x.2 ≤ M.bear then .tup [.int r.b, .int x.1, .int x.2, .int (l - more)] else .non
def MapD.ends (M : MapD) (s : StD) (pieces : Nat) (road : Nat) : List D :=
  (List.range (s.l + 1).toNat).map fun more => endD M (M.road road) s.l (hours (M.road road).m (s.i + pieces, s.w) ((M.road road).h.toNat + more)) more
/-! lists by place -/
theorem range_map {α : Type} (g : D → α) (l : List D) : (List.range l.length).map (fun j => g (nthD l j)) = l.map g := by
  apply List.ext_getElem?
  intro i
  rw [List.getElem?_map, List.getElem?_map]
  by_cases h : i < l.length
  · rw [List.getElem?_range h, nthD_get h]
    rfl
  · rw [List.getElem?_eq_none (by simpa using h), List.getElem?_eq_none (by simpa using h)]
    rfl
theorem nth_map {α : Type} (f : α → D) {l : List α} {i : Nat} (h : i < l.length) (z : α) : nthD (l.map f) i = f (l.getD i z) := by
  have e : (l.map f)[i]? = some (nthD (l.map f) i) := nthD_get (by rw [List.length_map]; exact h)
  rw [List.getElem?_map, List.getElem?_eq_getElem h] at e
  rw [List.getD_eq_getElem?_getD, List.getElem?_eq_getElem h]
  exact (Option.some.inj e).symm
theorem atI_map {α : Type} (f : α → D) {l : List α} {i : Int} (h0 : 0 ≤ i) (h : i < l.length) (z : α) : L2.atI (l.map f) i = some (f (l.getD i.toNat z)) := by
  have hn : i.toNat < l.length := by omega
  have ei : i = ((i.toNat : Nat) : Int) := by omega
  rw [ei]
  refine atI_nat ?_
  rw [List.getElem?_map, List.getElem?_eq_getElem hn, Int.toNat_natCast, List.getD_eq_getElem?_getD, List.getElem?_eq_getElem hn]
  rfl
section
variable {P : Program} {w : World} {K : PySem.W.Frag} {mg : Str → Option Value} {base : Heap} {k : Nat}
/-! ### roads_from -/
def R_roads_from (C : Addr) (ds : List D) (d : D) : Prop := ∃ M p, ds = [mapD C M, .int p] ∧ M.roads.length ≤ 7 ∧ d = .lst ((M.lead p).map fun i => .int (i : Nat))
theorem ok_roads_from (T : Txt K mg) : FnOk P w K mg base CX0 3 T.a_roads_from T.fd_roads_from ["chart", "place"] (spP K 2 (R_roads_from T.C_Map)) := by
  refine fnP T.F_roads_from sc_roads_from rfl (fun cdv A outer s H E hr => ?_)
  refine ⟨_, (pss_one (ps_ret (pe_lc (own := [("index", 2), ("road", 3)]) rfl sc_roads_from.nd (piEnumT K (by rfl) T.n_enumerate (pa_cons (pe_prop (pv 0) T.cl T.PO_roads (get_roads (k := 0) T) (hr.mono (by decide)) T.b_Map_roads .nil pass0 rfl) pa_nil)) (blkOk_by (own := [("index", 2), ("road", 3)]) (N := ["chart", "place", "index", "road"]) (sc := defScope s_roads_from) (by decide +kernel)) (fun _ _ _ _ _ => (pgTup K 2 (pgs_cons (pg_name (i := 2) sc_roads_from.nd rfl (.inl rfl)) (pgs_cons (pg_name (i := 3) sc_roads_from.nd rfl (.inl rfl)) pgs_nil)))) (fun _ _ _ _ _ => (pts_one (pt_cmpR op_eq (pe_ix (ixT K) (pv 3) pe_int (fun _ _ => rfl)) (pv 1) (nomark _)))) (fun _ _ _ _ _ => (pv 2))))), ?_⟩
  rintro ds d ⟨M, p, rfl, hl, rfl⟩ -
  refine .rt (ds_ret ?_)
  have e : M.roads.length = (M.roads.map roadD).length := by rw [List.length_map]
  unfold MapD.lead
  rw [e]
  refine dt_lcIf (di_enumT (dt_prop (dt_var rfl) rfl)) (fun i => .int (i : Nat)) (fun i => decide ((M.road i).a = p)) (by rw [← e]; omega) fun i hi => ?_
  rw [← e] at hi
  refine ⟨_, _, dg_tup (dgs_cons dg_name (dgs_cons dg_name dgs_nil)) rfl, by decide, ?_, fun _ => dt_var rfl⟩
  rw [nth_map roadD hi ⟨0, 0, 0, 0⟩]
  exact db_test (dt_eqI (dt_ixT (dt_var rfl) dt_int rfl) (dt_var rfl))
end
end K2
end
section
set_option Elab.async false
set_option linter.all false
set_option maxRecDepth 100000
set_option maxHeartbeats 4000000
namespace K2
open PySem PySem.Spec PyProof.Rows L2 DL
section
variable {P : Program} {w : World} {K : PySem.W.Frag} {mg : Str → Option Value} {base : Heap} {k : Nat}
theorem price_isN (M : MapD) (p : Int) : D.isN (optD (M.price p)) = decide (M.price p = none) := by
  cases M.price p with
  | none => rfl
  | some x => simp [optD, D.isN]
theorem price_at {M : MapD} {p : Int} (h0 : 0 ≤ p) (h : p < M.prices.length) : L2.atI (M.prices.map optD) p = some (optD (M.price p)) := atI_map optD h0 h none
theorem road_at {M : MapD} {r : Nat} (h : r < M.roads.length) : L2.atI (M.roads.map roadD) ((r : Nat) : Int) = some (roadD (M.road r)) := atI_map roadD (by omega) (by omega) ⟨0, 0, 0, 0⟩
theorem lead_lt {M : MapD} {p : Int} {r : Nat} (h : r ∈ M.lead p) : r < M.roads.length := List.mem_range.mp (List.mem_filter.mp h).1
theorem lead_a {M : MapD} {p : Int} {r : Nat} (h : r ∈ M.lead p) : (M.road r).a = p := of_decide_eq_true (List.mem_filter.mp h).2
theorem lead_len (M : MapD) (p : Int) : (M.lead p).length ≤ M.roads.length := by
  have := List.length_filter_le (fun i => decide ((M.road i).a = p)) (List.range M.roads.length)
  rw [List.length_range] at this
  exact this
/-! ### possible_moves -/
structure InR (M : MapD) (s : StD) : Prop where
  r7 : M.roads.length ≤ 7
  p0 : 0 ≤ s.p
  pn : s.p < M.prices.length
  i0 : 0 ≤ s.i
  i1 : s.i ≤ M.room
  m6 : M.room ≤ 6
theorem most_bd {M : MapD} {s : StD} (h : InR M s) : 0 ≤ M.most s ∧ M.most s ≤ 6 := by
  have h1 := h.i0
  have h2 := h.i1
  have h3 := h.m6
  unfold MapD.most
  split <;> omega
def R_pairs (C : Addr) (ds : List D) (d : D) : Prop := ∃ (M : MapD) (p most : Int), ds = [mapD C M, .int p, .int most] ∧ M.roads.length ≤ 7 ∧ 0 ≤ p ∧ p < M.prices.length ∧ 0 ≤ most ∧ most ≤ 6 ∧ d = .lst (M.pairs p most)
theorem ok_pairs_from (T : Txt K mg) : FnOk P w K mg base CX0 4 T.a_pairs_from T.fd_pairs_from ["chart", "place", "most"] (spP K 3 (R_pairs T.C_Map)) := by
  refine fnP T.F_pairs_from sc_pairs_from rfl (fun cdv A outer s H E hr => ?_)
  refine ⟨_, (pss_cons (ps_set (i := 3) sc_pairs_from.nd rfl (.inl rfl) (pe_ifExp (pt_cmp (pc_isN (pe_ix (ixT K) (pe_prop (pv 0) T.cl T.PO_prices (get_prices (k := 0) T) (hr.mono (by decide)) T.b_Map_prices .nil pass0 rfl) (pv 1) (fun _ _ => rfl)))) pe_int (pv 2)))
  (pss_cons (ps_set (i := 4) sc_pairs_from.nd rfl (.inr rfl) (pe_call (ok_roads_from T) (hr.mono (by decide)) (by rfl) T.g_roads_from T.F_roads_from.kp T.b_roads_from .nil pass0 (pa_cons (pv 0) (pa_cons (pv 1) pa_nil))))
  (pss_one (ps_ret (pe_lc2 (own := [("pieces", 5), ("road", 6)]) rfl sc_pairs_from.nd (pi_range1 (by rfl) T.n_range (pa_cons (pe_op op_add (pv 3) pe_int) pa_nil)) (blkOk_by (own := [("pieces", 5), ("road", 6)]) (N := ["chart", "place", "most", "top", "leading", "pieces", "road"]) (sc := defScope s_pairs_from) (by decide +kernel)) (vs1 := [6]) (by decide) (fun _ _ _ _ _ => (pg_name (i := 5) sc_pairs_from.nd rfl (.inl rfl))) (fun _ _ _ _ _ => pts_nil) (fun _ _ _ _ _ => (piList K (pv 4))) (fun _ _ _ _ _ => (pg_name (i := 6) sc_pairs_from.nd rfl (.inl rfl))) (fun _ _ _ _ _ => pts_nil) (fun _ _ _ _ _ => (pe_tup (pa_cons (pv 5) (pa_cons (pv 6) pa_nil))))))))), ?_⟩
  rintro ds d ⟨M, p, most, rfl, h7, p0, pn, m0, m6, rfl⟩ -
  have t6 : 0 ≤ M.top p most ∧ M.top p most ≤ 6 := by
    unfold MapD.top
    split <;> omega
  refine .rt (ds_seq (ss1 := [some (.dat (mapD T.C_Map M)), some (.dat (.int p)), some (.dat (.int most)), some (.dat (.int (M.top p most))), none, none, none]) (m1 := []) (ds_set ?_) ?_)
  · refine dt_if (b := decide (M.price p = none)) (db_b (by rw [← price_isN]; exact dt_isN (dt_ixT (dt_prop (dt_var rfl) rfl) (dt_var rfl) (price_at p0 pn)))) ?_
    unfold MapD.top
    by_cases h : M.price p = none
    · rw [if_pos (decide_eq_true h), if_pos h]
      exact dt_int
    · rw [if_neg (by simpa using h), if_neg h]
      exact dt_var rfl
  · refine ds_seq (ds_set (dt_call (da_cons (dt_var rfl) (da_cons (dt_var rfl) da_nil)) ⟨M, p, rfl, h7, rfl⟩)) ?_
    refine ds_ret ?_
    have hl := lead_len M p
    have e : M.pairs p most = (List.range (M.top p most + 1).toNat).flatMap fun i => (List.range ((M.lead p).map fun i => D.int (i : Nat)).length).map fun j => .tup [.int (0 + (i : Nat)), nthD ((M.lead p).map fun i => D.int (i : Nat)) j] := by
      unfold MapD.pairs
      refine congrArg (fun f => List.flatMap f (List.range (M.top p most + 1).toNat)) (funext fun i => ?_)
      rw [range_map (fun d => D.tup [.int (0 + (i : Nat)), d]), List.map_map]
      refine congrArg (fun f => List.map f (M.lead p)) (funext fun r => ?_)
      show D.tup [.int (i : Nat), .int (r : Nat)] = D.tup [.int (0 + (i : Nat)), .int (r : Nat)]
      rw [Int.zero_add]
    rw [e]
    refine dt_lc2 (di_rng1 (da_cons (dt_i0 (dt_var rfl) dt_int) da_nil) (by omega) (by omega)) _ ?_ (by decide) fun i hi => ⟨_, _, dg_name, by decide, di_list (dt_var rfl), fun j hj => ⟨_, _, dg_name, by decide, dt_tup (da_cons (dt_var rfl) (da_cons (dt_var rfl) da_nil))⟩⟩
    rw [List.length_map]
    have h1 : (M.top p most + 1).toNat * (M.lead p).length ≤ 7 * 7 := Nat.mul_le_mul (by omega) (by omega)
    omega
def R_moves (C : Addr) (ds : List D) (d : D) : Prop := ∃ M s, ds = [mapD C M, stD s] ∧ InR M s ∧ d = .lst (M.moves s)
theorem ok_possible_moves (T : Txt K mg) : FnOk P w K mg base CX0 5 T.a_possible_moves T.fd_possible_moves ["chart", "state"] (spP K 2 (R_moves T.C_Map)) := by
  refine fnP T.F_possible_moves sc_possible_moves rfl (fun cdv A outer s H E hr => ?_)
  refine ⟨_, (pss_one (ps_ret (pe_call (ok_pairs_from T) (hr.mono (by decide)) (by rfl) T.g_pairs_from T.F_pairs_from.kp T.b_pairs_from .nil pass0 (pa_cons (pv 0) (pa_cons (pe_ix (ixT K) (pv 1) pe_int (fun _ _ => rfl)) (pa_cons (pe_op op_sub (pe_ix (ixT K) (pe_prop (pv 0) T.cl T.PO_box (get_box (k := 0) T) (hr.mono (by decide)) T.b_Map_box .nil pass0 rfl) pe_int (fun _ _ => rfl)) (pe_ix (ixT K) (pv 1) pe_int (fun _ _ => rfl))) pa_nil)))))), ?_⟩
  rintro ds d ⟨M, s, rfl, hI, rfl⟩ -
  have i0 := hI.i0
  have i1 := hI.i1
  have m6 := hI.m6
  exact .rt (ds_ret (dt_call (da_cons (dt_var rfl) (da_cons (dt_ixT (dt_var rfl) dt_int rfl) (da_cons (dt_i0 (dt_ixT (dt_prop (dt_var rfl) rfl) dt_int rfl) (dt_ixT (dt_var rfl) dt_int rfl)) da_nil))) ⟨M, s.p, M.room - s.i, rfl, hI.r7, hI.p0, hI.pn, by omega, by omega, rfl⟩))
/-! ### after_hour -/
def R_after_hour (ds : List D) (d : D) : Prop := ∃ i w m, ds = [.int i, .int w, .int m] ∧ d = .tup [.int (hour m (i, w)).1, .int (hour m (i, w)).2]
theorem ok_after_hour (T : Txt K mg) : FnOk P w K mg base CX0 1 T.a_after_hour T.fd_after_hour ["ice", "warm", "melt"] (spP K 3 R_after_hour) := by
  refine fnP T.F_after_hour sc_after_hour rfl (fun cdv A outer s H E hr => ?_)
  refine ⟨_, (pss_cons (ps_if (pt_cmpR op_ge (pv 0) (pv 2) (nomark _)) (pss_one (ps_ret (pe_tup (pa_cons (pe_op op_sub (pv 0) (pv 2)) (pa_cons (pv 1) pa_nil))))) pss_nil)
  (pss_one (ps_ret (pe_tup (pa_cons pe_int (pa_cons (pe_op op_add (pv 1) pe_int) pa_nil)))))), ?_⟩
  rintro ds d ⟨i, w, m, rfl, rfl⟩ -
  unfold hour
  by_cases h : i ≥ m
  · rw [if_pos h]
    refine .rt (ds_stop (ds_if (b := decide (m ≤ i)) (db_test (dt_i0b (dt_var rfl) (dt_var rfl))) ?_))
    rw [if_pos (decide_eq_true h)]
    exact ds_ret (dt_tup (da_cons (dt_i0 (dt_var rfl) (dt_var rfl)) (da_cons (dt_var rfl) da_nil)))
  · rw [if_neg h]
    refine .rt (ds_seq (ss1 := [some (.dat (.int i)), some (.dat (.int w)), some (.dat (.int m))]) (m1 := []) (ds_if (b := decide (m ≤ i)) (db_test (dt_i0b (dt_var rfl) (dt_var rfl))) ?_) ?_)
    · rw [if_neg (by simpa using h)]
      exact ds_next
    · exact ds_ret (dt_tup (da_cons dt_int (da_cons (dt_i0 (dt_var rfl) dt_int) da_nil)))
/-! ### move_results -/
structure InM (M : MapD) (s : StD) (r : Nat) : Prop where
  rl : r < M.roads.length
  h1 : 0 ≤ (M.road r).h
  h4 : (M.road r).h ≤ 4
  l0 : 0 ≤ s.l
  l4 : s.l ≤ 4
def R_results (C : Addr) (ds : List D) (d : D) : Prop := ∃ M s p r, ds = [mapD C M, stD s, mvD p r] ∧ InM M s r ∧ d = .lst (M.ends s p r)
theorem ok_move_results (T : Txt K mg) : FnOk P w K mg base CX0 3 T.a_move_results T.fd_move_results ["chart", "state", "move"] (spP K 3 (R_results T.C_Map)) := by
  refine fnP T.F_move_results sc_move_results rfl (fun cdv A outer s H E hr => ?_)
  refine ⟨_, (pss_cons (ps_asg (pe_slice (slT K) (pv 1) (po_some pe_int) po_none) (pgTup K 3 (pgs_cons (pg_name (i := 3) sc_move_results.nd rfl (.inl rfl)) (pgs_cons (pg_name (i := 4) sc_move_results.nd rfl (.inl rfl)) (pgs_cons (pg_name (i := 5) sc_move_results.nd rfl (.inl rfl)) pgs_nil)))))
  (pss_cons (ps_set (i := 6) sc_move_results.nd rfl (.inl rfl) (pe_ix (ixT K) (pe_prop (pv 0) T.cl T.PO_box (get_box (k := 0) T) (hr.mono (by decide)) T.b_Map_box .nil pass0 rfl) pe_int (fun _ _ => rfl)))
  (pss_cons (ps_asg (pv 2) (pgTup K 2 (pgs_cons (pg_name (i := 7) sc_move_results.nd rfl (.inl rfl)) (pgs_cons (pg_name (i := 8) sc_move_results.nd rfl (.inl rfl)) pgs_nil))))
  (pss_cons (ps_asg (pe_slice (slT K) (pe_ix (ixT K) (pe_prop (pv 0) T.cl T.PO_roads (get_roads (k := 0) T) (hr.mono (by decide)) T.b_Map_roads .nil pass0 rfl) (pv 8) (fun _ _ => rfl)) (po_some pe_int) po_none) (pgTup K 3 (pgs_cons (pg_name (i := 9) sc_move_results.nd rfl (.inl rfl)) (pgs_cons (pg_name (i := 10) sc_move_results.nd rfl (.inl rfl)) (pgs_cons (pg_name (i := 11) sc_move_results.nd rfl (.inl rfl)) pgs_nil)))))
  (pss_cons (ps_set (i := 3) sc_move_results.nd rfl (.inl rfl) (pe_op op_add (pv 3) (pv 7)))
  (pss_cons (ps_for PassesOwn.never rfl (pi_range1 (by rfl) T.n_range (pa_cons (pv 10) pa_nil)) (pg_name (i := 12) sc_move_results.nd rfl (.inl rfl)) (pss_one (ps_asg (pe_call (ok_after_hour T) (hr.mono (by decide)) (by rfl) T.g_after_hour T.F_after_hour.kp T.b_after_hour .nil pass0 (pa_cons (pv 3) (pa_cons (pv 4) (pa_cons (pv 11) pa_nil)))) (pgTup K 2 (pgs_cons (pg_name (i := 3) sc_move_results.nd rfl (.inl rfl)) (pgs_cons (pg_name (i := 4) sc_move_results.nd rfl (.inl rfl)) pgs_nil))))))
  (pss_cons (ps_set (i := 13) sc_move_results.nd rfl (.inl rfl) (pe_lst pa_nil))
  (pss_cons (ps_for PassesOwn.never rfl (pi_range1 (by rfl) T.n_range (pa_cons (pe_op op_add (pv 5) pe_int) pa_nil)) (pg_name (i := 14) sc_move_results.nd rfl (.inl rfl)) (pss_cons (ps_expr (pe_bm PySem.F.plainAttrs_list PySem.F.slot_list_append PySem.F.type_list_append mt_append (pv 13) (pa_cons (pe_ifExp (pt_cmpR op_le (pv 4) (pv 6) (nomark _)) (pe_tup (pa_cons (pv 9) (pa_cons (pv 3) (pa_cons (pv 4) (pa_cons (pe_op op_sub (pv 5) (pv 14)) pa_nil))))) pe_non) pa_nil)))
  (pss_one (ps_asg (pe_call (ok_after_hour T) (hr.mono (by decide)) (by rfl) T.g_after_hour T.F_after_hour.kp T.b_after_hour .nil pass0 (pa_cons (pv 3) (pa_cons (pv 4) (pa_cons (pv 11) pa_nil)))) (pgTup K 2 (pgs_cons (pg_name (i := 3) sc_move_results.nd rfl (.inl rfl)) (pgs_cons (pg_name (i := 4) sc_move_results.nd rfl (.inl rfl)) pgs_nil)))))))
  (pss_one (ps_ret (pv 13))))))))))), ?_⟩
  rintro ds d ⟨M, s, p, r, rfl, hI, rfl⟩ -
  have h1 := hI.h1
  have h4 := hI.h4
  have l0 := hI.l0
  have l4 := hI.l4
  let rd := M.road r
  have hh : rd.h = (M.road r).h := rfl
  let x := fun n => hours rd.m (s.i + (p : Nat), s.w) n
  refine ⟨[.gone], .inl ?_⟩
  refine ds_seq (ds_asg (dt_slT (dt_var rfl) (do_some dt_int) do_none) (dg_tup (dgs_cons dg_name (dgs_cons dg_name (dgs_cons dg_name dgs_nil))) rfl)) ?_
  refine ds_seq (ds_set (dt_ixT (dt_prop (dt_var rfl) rfl) dt_int rfl)) ?_
  refine ds_seq (ds_asg (dt_var rfl) (dg_tup (dgs_cons dg_name (dgs_cons dg_name dgs_nil)) rfl)) ?_
  refine ds_seq (ds_asg (dt_slT (dt_ixT (dt_prop (dt_var rfl) rfl) (dt_var rfl) (road_at hI.rl)) (do_some dt_int) do_none) (dg_tup (dgs_cons dg_name (dgs_cons dg_name (dgs_cons dg_name dgs_nil))) rfl)) ?_
  refine ds_seq (ds_set (dt_i0 (dt_var rfl) (dt_var rfl))) ?_
  let f : Nat → Sl := fun n => [some (.dat (mapD T.C_Map M)), some (.dat (stD s)), some (.dat (mvD p r)), some (.dat (.int (x n).1)), some (.dat (.int (x n).2)), some (.dat (.int s.l)), some (.dat (.int M.bear)), some (.dat (.int (p : Nat))), some (.dat (.int (r : Nat))), some (.dat (.int rd.b)), some (.dat (.int rd.h)), some (.dat (.int rd.m)), none, none, none]
  refine ds_seq (ds_forP [12] f rfl (di_rng1 (da_cons (dt_var rfl) da_nil) (by omega) (by omega)) fun i hi => ⟨_, ds_asg (dt_call (da_cons (dt_var rfl) (da_cons (dt_var rfl) (da_cons (dt_var rfl) da_nil))) ⟨_, _, _, rfl, rfl⟩) (dg_tup (dgs_cons dg_name (dgs_cons dg_name dgs_nil)) rfl), rfl⟩) ?_
  refine ds_seq (ds_set (dt_lstO da_nil)) ?_
  -- the second loop
  let h0 := rd.h.toNat
  let g : Nat → Sl := fun n => [some (.dat (mapD T.C_Map M)), some (.dat (stD s)), some (.dat (mvD p r)), some (.dat (.int (x (h0 + n)).1)), some (.dat (.int (x (h0 + n)).2)), some (.dat (.int s.l)), some (.dat (.int M.bear)), some (.dat (.int (p : Nat))), some (.dat (.int (r : Nat))), some (.dat (.int rd.b)), some (.dat (.int rd.h)), some (.dat (.int rd.m)), none, some (.own 0), none]
  let acc : Nat → List D := fun n => (List.range n).map fun more => endD M rd s.l (x (h0 + more)) more
  refine ds_seq (ds_forW [14] g (fun n => [.lst (acc n)]) rfl (di_rng1 (da_cons (dt_i0 (dt_var rfl) dt_int) da_nil) (by omega) (by omega)) (fun _ => rfl) (fun _ => rfl) fun i hi => ?_) ?_
  · refine ⟨_, [], ds_seq (ss1 := (g i).set 14 (some (.dat (.int (0 + (i : Nat)))))) (m1 := [.lst (acc (i + 1))]) (ds_drop (r := .dat .non) ?_) (ds_asg (dt_call (da_cons (dt_var rfl) (da_cons (dt_var rfl) (da_cons (dt_var rfl) da_nil))) ⟨_, _, _, rfl, rfl⟩) (dg_tup (dgs_cons dg_name (dgs_cons dg_name dgs_nil)) rfl)), rfl⟩
    have ea : acc (i + 1) = acc i ++ [endD M rd s.l (x (h0 + i)) i] := by
      show (List.range (i + 1)).map _ = (List.range i).map _ ++ _
      rw [List.range_succ, List.map_append]
      rfl
    rw [ea]
    have hacc : (acc i).length < 16777216 := by
      show ((List.range i).map _).length < _
      rw [List.length_map, List.length_range]
      omega
    refine dt_append (n := 0) (ds := acc i) (m1 := [.lst (acc i)]) (m2 := [.lst (acc i)]) (dt_var rfl) (da_cons ?_ da_nil) rfl rfl hacc
    refine dt_if (b := decide ((x (h0 + i)).2 ≤ M.bear)) (db_test (dt_i0b (dt_var rfl) (dt_var rfl))) ?_
    unfold endD
    by_cases hb : (x (h0 + i)).2 ≤ M.bear
    · rw [if_pos (decide_eq_true hb), if_pos hb]
      rw [show s.l - ((i : Nat) : Int) = s.l - (0 + ((i : Nat) : Int)) by omega]
      exact dt_tup (da_cons (dt_var rfl) (da_cons (dt_var rfl) (da_cons (dt_var rfl) (da_cons (dt_i0 (dt_var rfl) (dt_var rfl)) da_nil))))
    · rw [if_neg (by simpa using hb), if_neg hb]
      exact dt_non
  · exact ds_ret (dt_frz (n := 0) (m1 := [.lst (acc (s.l + 1).toNat)]) (dt_var rfl) rfl)
end
end K2
end
section
set_option Elab.async false
set_option linter.all false
set_option maxRecDepth 100000
set_option maxHeartbeats 4000000
namespace K2
open PySem PySem.Spec PyProof.Rows L2 DL
section
variable {P : Program} {w : World} {K : PySem.W.Frag} {mg : Str → Option Value} {base : Heap} {k : Nat}
/-! ### the law's own moves -/
/-- what the first pieces give -/
def movesUpTo (M : MapD) (s : StD) (n : Nat) : List D := (List.range n).flatMap fun i => if i = 0 ∨ M.price s.p ≠ none then (M.lead s.p).map (mvD i) else []
theorem movesUpTo_all {M : MapD} {s : StD} (h : InR M s) : movesUpTo M s (M.room - s.i + 1).toNat = M.moves s := by
  have i1 := h.i1
  unfold movesUpTo MapD.moves MapD.most
  by_cases hp : M.price s.p = none
  · rw [if_pos hp]
    have e : (M.room - s.i + 1).toNat = (M.room - s.i).toNat + 1 := by omega
    rw [e]
    have key : ∀ n, ((List.range (n + 1)).flatMap fun i => if i = 0 ∨ M.price s.p ≠ none then (M.lead s.p).map (mvD i) else []) = (M.lead s.p).map (mvD 0) := fun n => by
      induction n with
      | zero => simp
      | succ n ih =>
        rw [List.range_succ, List.flatMap_append, ih]
        simp [hp]
    rw [key]
    simp
  · rw [if_neg hp]
    refine congrArg (fun f => List.flatMap f _) (funext fun i => ?_)
    rw [if_pos (.inr hp)]
theorem movesUpTo_len {M : MapD} {s : StD} (h : InR M s) (n : Nat) : (movesUpTo M s n).length ≤ n * 7 := by
  have hl := lead_len M s.p
  have r7 := h.r7
  induction n with
  | zero => simp [movesUpTo]
  | succ n ih =>
    unfold movesUpTo at ih ⊢
    rw [List.range_succ, List.flatMap_append, List.length_append, Nat.succ_mul]
    have : ((List.flatMap (fun i => if i = 0 ∨ M.price s.p ≠ none then (M.lead s.p).map (mvD i) else []) [n]).length) ≤ 7 := by
      simp only [List.flatMap_cons, List.flatMap_nil, List.append_nil]
      split
      · rw [List.length_map]
        omega
      · simp
    omega
theorem ok__law_moves (T : Txt K mg) : FnOk P w K mg base CX0 3 T.a__law_moves T.fd__law_moves ["_law_chart", "_law_state_here"] (spP K 2 (R_moves T.C_Map)) := by
  refine fnP T.F__law_moves sc__law_moves rfl (fun cdv A outer s H E hr => ?_)
  refine ⟨_, (pss_cons (ps_asg (pe_tup (pa_cons (pe_ix (ixT K) (pv 1) pe_int (fun _ _ => rfl)) (pa_cons (pe_ix (ixT K) (pv 1) pe_int (fun _ _ => rfl)) pa_nil))) (pgTup K 2 (pgs_cons (pg_name (i := 2) sc__law_moves.nd rfl (.inr rfl)) (pgs_cons (pg_name (i := 3) sc__law_moves.nd rfl (.inl rfl)) pgs_nil))))
  (pss_cons (ps_setLc (i := 4) (own := [("_law_at", 7), ("_law_road", 8)]) rfl sc__law_moves.nd rfl rfl (sw_true rfl rfl rfl (by decide +kernel)) (piEnumT K (by rfl) T.n_enumerate (pa_cons (pe_prop (pv 0) T.cl T.PO_roads (get_roads (k := 0) T) (hr.mono (by decide)) T.b_Map_roads .nil pass0 rfl) pa_nil)) (blkOk_by (own := [("_law_at", 7), ("_law_road", 8)]) (N := ["_law_chart", "_law_state_here", "_law_place", "_law_ice", "_law_roads", "_law_found", "_law_pieces", "_law_at", "_law_road"]) (sc := defScope s__law_moves) (by decide +kernel)) (fun _ _ _ _ _ => (pgTup K 2 (pgs_cons (pg_name (i := 7) sc__law_moves.nd rfl (.inl rfl)) (pgs_cons (pg_name (i := 8) sc__law_moves.nd rfl (.inl rfl)) pgs_nil)))) (fun _ _ _ _ _ => (pts_one (pt_cmpR op_eq (pe_ix (ixT K) (pv 8) pe_int (fun _ _ => rfl)) (pv 2) (nomark _)))) (fun _ _ _ _ _ => (pv 7)))
  (pss_cons (ps_set (i := 5) sc__law_moves.nd rfl (.inl rfl) (pe_lst pa_nil))
  (pss_cons (ps_for PassesOwn.never rfl (pi_range1 (by rfl) T.n_range (pa_cons (pe_op op_add (pe_op op_sub (pe_ix (ixT K) (pe_prop (pv 0) T.cl T.PO_box (get_box (k := 0) T) (hr.mono (by decide)) T.b_Map_box .nil pass0 rfl) pe_int (fun _ _ => rfl)) (pv 3)) pe_int) pa_nil)) (pg_name (i := 6) sc__law_moves.nd rfl (.inr rfl)) (pss_one (ps_if (PW.pt (pw_or (pt_cmpR op_eq (pv 6) pe_int (nomark _)) (pw_or1 (pt_cmp (pc_notN (pe_ix (ixT K) (pe_prop (pv 0) T.cl T.PO_prices (get_prices (k := 0) T) (hr.mono (by decide)) T.b_Map_prices .nil pass0 rfl) (pv 2) (fun _ _ => rfl))))))) (pss_one (ps_set (i := 5) sc__law_moves.nd rfl (.inl rfl) (pe_op op_cat (pv 5) (pe_lc (own := [("_law_road", 8)]) rfl sc__law_moves.nd (piList K (pv 4)) (blkOk_by (own := [("_law_road", 8)]) (N := ["_law_chart", "_law_state_here", "_law_place", "_law_ice", "_law_roads", "_law_found", "_law_pieces", "_law_at", "_law_road"]) (sc := defScope s__law_moves) (by decide +kernel)) (fun _ _ _ _ _ => (pg_name (i := 8) sc__law_moves.nd rfl (.inl rfl))) (fun _ _ _ _ _ => pts_nil) (fun _ _ _ _ _ => (pe_tup (pa_cons (pv 6) (pa_cons (pv 8) pa_nil)))))))) pss_nil)))
  (pss_one (ps_ret (pv 5))))))), ?_⟩
  rintro ds d ⟨M, s, rfl, hI, rfl⟩ -
  have i0 := hI.i0
  have i1 := hI.i1
  have m6 := hI.m6
  have r7 := hI.r7
  have hl := lead_len M s.p
  refine .rt ?_
  refine ds_seq (ds_asg (dt_tup (da_cons (dt_ixT (dt_var rfl) dt_int rfl) (da_cons (dt_ixT (dt_var rfl) dt_int rfl) da_nil))) (dg_tup (dgs_cons dg_name (dgs_cons dg_name dgs_nil)) rfl)) ?_
  let L : List D := (M.lead s.p).map fun i => .int (i : Nat)
  let f : Nat → Sl := fun n => [some (.dat (mapD T.C_Map M)), some (.dat (stD s)), some (.dat (.int s.p)), some (.dat (.int s.i)), some (.dat (.lst L)), some (.tl (movesUpTo M s n)), none, none, none]
  refine ds_seq (ss1 := [some (.dat (mapD T.C_Map M)), some (.dat (stD s)), some (.dat (.int s.p)), some (.dat (.int s.i)), some (.dat (.lst L)), none, none, none, none]) (m1 := []) (ds_set (i := 4) ?_) ?_
  · have e : M.roads.length = (M.roads.map roadD).length := by rw [List.length_map]
    show DT K _ _ [] (.dat (.lst ((M.lead s.p).map fun i => .int (i : Nat)))) []
    unfold MapD.lead
    rw [e]
    refine dt_lcIf (di_enumT (dt_prop (dt_var rfl) rfl)) (fun i => .int (i : Nat)) (fun i => decide ((M.road i).a = s.p)) (by rw [← e]; omega) fun i hi => ?_
    rw [← e] at hi
    refine ⟨_, _, dg_tup (dgs_cons dg_name (dgs_cons dg_name dgs_nil)) rfl, by decide, ?_, fun _ => dt_var rfl⟩
    rw [nth_map roadD hi ⟨0, 0, 0, 0⟩]
    exact db_test (dt_eqI (dt_ixT (dt_var rfl) dt_int rfl) (dt_var rfl))
  refine ds_seq (ds_set (dt_lstT da_nil)) ?_
  refine ds_seq (ds_forP [6] f rfl (di_rng1 (da_cons (dt_i0 (dt_i0 (dt_ixT (dt_prop (dt_var rfl) rfl) dt_int rfl) (dt_var rfl)) dt_int) da_nil) (by omega) (by omega)) fun i hi => ?_) ?_
  · refine ⟨(f (i + 1)).set 6 (some (.dat (.int (0 + (i : Nat))))), ds_if (b := decide ((0 : Int) + (i : Nat) = 0) || !D.isN (optD (M.price s.p))) (db_or (db_test (dt_eqI (dt_var rfl) dt_int)) fun _ => db_b (dt_notN (dt_ixT (dt_prop (dt_var rfl) rfl) (dt_var rfl) (price_at hI.p0 hI.pn)))) ?_, rfl⟩
    rw [price_isN]
    have en : movesUpTo M s (i + 1) = movesUpTo M s i ++ (if i = 0 ∨ M.price s.p ≠ none then (M.lead s.p).map (mvD i) else []) := by
      unfold movesUpTo
      rw [List.range_succ, List.flatMap_append]
      simp
    by_cases hc : i = 0 ∨ M.price s.p ≠ none
    · have hb : (decide ((0 : Int) + (i : Nat) = 0) || !decide (M.price s.p = none)) = true := by
        rcases hc with h | h
        · rw [h]; rfl
        · simp [h]
      rw [if_pos hb]
      refine ds_set (i := 5) (r := .tl (movesUpTo M s (i + 1))) ?_
      rw [en, if_pos hc]
      have e2 : (M.lead s.p).map (mvD i) = (List.range L.length).map fun j => .tup [.int (0 + (i : Nat)), nthD L j] := by
        rw [range_map (fun d => D.tup [.int (0 + (i : Nat)), d])]
        show _ = ((M.lead s.p).map fun i => D.int (i : Nat)).map _
        rw [List.map_map]
        refine congrArg (fun f => List.map f (M.lead s.p)) (funext fun r => ?_)
        show D.tup [.int (i : Nat), .int (r : Nat)] = D.tup [.int (0 + (i : Nat)), .int (r : Nat)]
        rw [Int.zero_add]
      have hlen := movesUpTo_len hI i
      refine dt_catT (dt_var rfl) ?_ (by rw [List.length_map]; omega)
      rw [e2]
      exact dt_lcMapT (di_list (dt_var rfl)) _ (by show ((M.lead s.p).map _).length ≤ _; rw [List.length_map]; omega) fun j hj => ⟨_, _, dg_name, by decide, dt_tup (da_cons (dt_var rfl) (da_cons (dt_var rfl) da_nil))⟩
    · have hb : ¬ (decide ((0 : Int) + (i : Nat) = 0) || !decide (M.price s.p = none)) = true := by
        have h1 : i ≠ 0 := fun h => hc (.inl h)
        have h2 : M.price s.p = none := Classical.byContradiction fun h => hc (.inr h)
        simp [h2]
        omega
      rw [if_neg hb]
      have e3 : movesUpTo M s (i + 1) = movesUpTo M s i := by rw [en, if_neg hc, List.append_nil]
      show DS K _ _ [] (.nx ([_, _, _, _, _, some (.tl (movesUpTo M s (i + 1))), _, _, _]) [])
      rw [e3]
      exact ds_next
  · refine ds_ret (dt_tl ?_)
    have := movesUpTo_all hI
    rw [← this]
    exact dt_var rfl
/-! ### the law's own hours -/
def loadD (M : MapD) (x : Int × Int) : D := if x.2 > M.bear then .non else .tup [.int x.1, .int x.2]
def R__law_hours (C : Addr) (ds : List D) (d : D) : Prop := ∃ M i w r more, ds = [mapD C M, .int i, .int w, .int (r : Nat), .int (more : Nat)] ∧ r < M.roads.length ∧ 0 ≤ (M.road r).h ∧ (M.road r).h ≤ 4 ∧ more ≤ 4 ∧
  d = loadD M (hours (M.road r).m (i, w) ((M.road r).h.toNat + more))
theorem ok__law_hours (T : Txt K mg) : FnOk P w K mg base CX0 3 T.a__law_hours T.fd__law_hours ["_law_chart", "_law_ice", "_law_warm", "_law_road", "_law_more"] (spP K 5 (R__law_hours T.C_Map)) := by
  refine fnP T.F__law_hours sc__law_hours rfl (fun cdv A outer s H E hr => ?_)
  refine ⟨_, (pss_cons (ps_set (i := 5) sc__law_hours.nd rfl (.inl rfl) (pe_ix (ixT K) (pe_ix (ixT K) (pe_prop (pv 0) T.cl T.PO_roads (get_roads (k := 0) T) (hr.mono (by decide)) T.b_Map_roads .nil pass0 rfl) (pv 3) (fun _ _ => rfl)) pe_int (fun _ _ => rfl)))
  (pss_cons (ps_for PassesOwn.never rfl (pi_range1 (by rfl) T.n_range (pa_cons (pe_op op_add (pe_ix (ixT K) (pe_ix (ixT K) (pe_prop (pv 0) T.cl T.PO_roads (get_roads (k := 0) T) (hr.mono (by decide)) T.b_Map_roads .nil pass0 rfl) (pv 3) (fun _ _ => rfl)) pe_int (fun _ _ => rfl)) (pv 4)) pa_nil)) (pg_name (i := 6) sc__law_hours.nd rfl (.inl rfl)) (pss_one (ps_if (pt_cmpR op_lt (pv 1) (pv 5) (nomark _)) (pss_one (ps_par (i := 1) (j := 2) (by rfl) sc__law_hours.nd rfl rfl (by decide) rfl rfl (pa_cons pe_int (pa_cons (pe_op op_add (pv 2) pe_int) pa_nil)) (by rfl))) (pss_one (ps_set (i := 1) sc__law_hours.nd rfl (.inl rfl) (pe_op op_sub (pv 1) (pv 5)))))))
  (pss_one (ps_ret (pe_ifExp (pt_cmpR op_gt (pv 2) (pe_ix (ixT K) (pe_prop (pv 0) T.cl T.PO_box (get_box (k := 0) T) (hr.mono (by decide)) T.b_Map_box .nil pass0 rfl) pe_int (fun _ _ => rfl)) (nomark _)) pe_non (pe_tup (pa_cons (pv 1) (pa_cons (pv 2) pa_nil)))))))), ?_⟩
  rintro ds d ⟨M, i, w, r, more, rfl, hr, h0, h4, m4, rfl⟩ -
  refine .rt ?_
  refine ds_seq (ds_set (dt_ixT (dt_ixT (dt_prop (dt_var rfl) rfl) (dt_var rfl) (road_at hr)) dt_int rfl)) ?_
  let x := fun n => hours (M.road r).m (i, w) n
  let f : Nat → Sl := fun n => [some (.dat (mapD T.C_Map M)), some (.dat (.int (x n).1)), some (.dat (.int (x n).2)), some (.dat (.int (r : Nat))), some (.dat (.int (more : Nat))), some (.dat (.int (M.road r).m)), none]
  refine ds_seq (ds_forP [6] f rfl (di_rng1 (da_cons (dt_i0 (dt_ixT (dt_ixT (dt_prop (dt_var rfl) rfl) (dt_var rfl) (road_at hr)) dt_int rfl) (dt_var rfl)) da_nil) (by omega) (by omega)) fun n hn => ?_) ?_
  · refine ⟨(f (n + 1)).set 6 (some (.dat (.int (0 + (n : Nat))))), ds_if (b := decide ((x n).1 < (M.road r).m)) (db_test (dt_i0b (dt_var rfl) (dt_var rfl))) ?_, rfl⟩
    have en : x (n + 1) = hour (M.road r).m (x n) := rfl
    by_cases hlt : (x n).1 < (M.road r).m
    · rw [if_pos (decide_eq_true hlt)]
      have e1 : x (n + 1) = (0, (x n).2 + 1) := by
        rw [en]
        unfold hour
        rw [if_neg (by omega)]
      show DS K _ _ [] (.nx ([_, some (.dat (.int (x (n + 1)).1)), some (.dat (.int (x (n + 1)).2)), _, _, _, _]) [])
      rw [e1]
      exact ds_par (da_cons dt_int (da_cons (dt_i0 (dt_var rfl) dt_int) da_nil))
    · rw [if_neg (by simpa using hlt)]
      have e1 : x (n + 1) = ((x n).1 - (M.road r).m, (x n).2) := by
        rw [en]
        unfold hour
        rw [if_pos (by omega)]
      show DS K _ _ [] (.nx ([_, some (.dat (.int (x (n + 1)).1)), some (.dat (.int (x (n + 1)).2)), _, _, _, _]) [])
      rw [e1]
      exact ds_set (dt_i0 (dt_var rfl) (dt_var rfl))
  · refine ds_ret ?_
    have et : ((M.road r).h + (more : Nat)).toNat = (M.road r).h.toNat + more := by omega
    show DT K _ (f ((M.road r).h + (more : Nat)).toNat) [] (.dat (loadD M (x ((M.road r).h.toNat + more)))) []
    rw [et]
    refine dt_if (b := decide (M.bear < (x ((M.road r).h.toNat + more)).2)) (db_test (dt_i0b (dt_var rfl) (dt_ixT (dt_prop (dt_var rfl) rfl) dt_int rfl))) ?_
    unfold loadD
    by_cases hb : (x ((M.road r).h.toNat + more)).2 > M.bear
    · rw [if_pos (decide_eq_true hb), if_pos hb]
      exact dt_non
    · rw [if_neg (by simpa using hb), if_neg hb]
      exact dt_tup (da_cons (dt_var rfl) (da_cons (dt_var rfl) da_nil))
/-! ### the law's own results -/
theorem ok__law_ends (T : Txt K mg) : FnOk P w K mg base CX0 4 T.a__law_ends T.fd__law_ends ["_law_chart", "_law_state_here", "_law_move"] (spP K 3 (R_results T.C_Map)) := by
  refine fnP T.F__law_ends sc__law_ends rfl (fun cdv A outer s H E hr => ?_)
  refine ⟨_, (pss_cons (ps_set (i := 3) sc__law_ends.nd rfl (.inl rfl) (pe_lst pa_nil))
  (pss_cons (ps_for PassesOwn.never rfl (pi_range1 (by rfl) T.n_range (pa_cons (pe_op op_add (pe_ix (ixT K) (pv 1) pe_int (fun _ _ => rfl)) pe_int) pa_nil)) (pg_name (i := 4) sc__law_ends.nd rfl (.inl rfl)) (pss_cons (ps_set (i := 5) sc__law_ends.nd rfl (.inl rfl) (pe_call (ok__law_hours T) (hr.mono (by decide)) (by rfl) T.g__law_hours T.F__law_hours.kp T.b__law_hours .nil pass0 (pa_cons (pv 0) (pa_cons (pe_op op_add (pe_ix (ixT K) (pv 1) pe_int (fun _ _ => rfl)) (pe_ix (ixT K) (pv 2) pe_int (fun _ _ => rfl))) (pa_cons (pe_ix (ixT K) (pv 1) pe_int (fun _ _ => rfl)) (pa_cons (pe_ix (ixT K) (pv 2) pe_int (fun _ _ => rfl)) (pa_cons (pv 4) pa_nil)))))))
  (pss_one (ps_if (pt_cmp (pc_isN (pv 5))) (pss_one (ps_expr (pe_bm PySem.F.plainAttrs_list PySem.F.slot_list_append PySem.F.type_list_append mt_append (pv 3) (pa_cons pe_non pa_nil)))) (pss_one (ps_expr (pe_bm PySem.F.plainAttrs_list PySem.F.slot_list_append PySem.F.type_list_append mt_append (pv 3) (pa_cons (pe_tup (pa_cons (pe_ix (ixT K) (pe_ix (ixT K) (pe_prop (pv 0) T.cl T.PO_roads (get_roads (k := 0) T) (hr.mono (by decide)) T.b_Map_roads .nil pass0 rfl) (pe_ix (ixT K) (pv 2) pe_int (fun _ _ => rfl)) (fun _ _ => rfl)) pe_int (fun _ _ => rfl)) (pa_cons (pe_ix (ixT K) (pv 5) pe_int (fun _ _ => rfl)) (pa_cons (pe_ix (ixT K) (pv 5) pe_int (fun _ _ => rfl)) (pa_cons (pe_op op_sub (pe_ix (ixT K) (pv 1) pe_int (fun _ _ => rfl)) (pv 4)) pa_nil))))) pa_nil))))))))
  (pss_one (ps_ret (pv 3))))), ?_⟩
  rintro ds d ⟨M, s, p, r, rfl, hI, rfl⟩ -
  have h1 := hI.h1
  have h4 := hI.h4
  have l0 := hI.l0
  have l4 := hI.l4
  refine ⟨[.gone], .inl ?_⟩
  refine ds_seq (ds_set (dt_lstO da_nil)) ?_
  let x : Nat → Int × Int := fun n => hours (M.road r).m (s.i + (p : Nat), s.w) ((M.road r).h.toNat + n)
  let acc : Nat → List D := fun n => (List.range n).map fun more => endD M (M.road r) s.l (x more) more
  let f : Nat → Sl := fun n => [some (.dat (mapD T.C_Map M)), some (.dat (stD s)), some (.dat (mvD p r)), some (.own 0), none, none]
  refine ds_seq (ds_forW [4, 5] f (fun n => [.lst (acc n)]) rfl (di_rng1 (da_cons (dt_i0 (dt_ixT (dt_var rfl) dt_int rfl) dt_int) da_nil) (by omega) (by omega)) (fun _ => rfl) (fun _ => rfl) fun i hi => ?_) ?_
  · have ea : acc (i + 1) = acc i ++ [endD M (M.road r) s.l (x i) i] := by
      show (List.range (i + 1)).map _ = (List.range i).map _ ++ _
      rw [List.range_succ, List.map_append]
      rfl
    have hacc : (acc i).length < 16777216 := by
      show ((List.range i).map _).length < _
      rw [List.length_map, List.length_range]
      omega
    have ei : (0 : Int) + (i : Nat) = (i : Nat) := by omega
    refine ⟨[some (.dat (mapD T.C_Map M)), some (.dat (stD s)), some (.dat (mvD p r)), some (.own 0), some (.dat (.int (i : Nat))), some (.dat (loadD M (x i)))], [], ?_, rfl⟩
    rw [ei]
    refine ds_seq (ds_set (i := 5) (dt_call (da_cons (dt_var rfl) (da_cons (dt_i0 (dt_ixT (dt_var rfl) dt_int rfl) (dt_ixT (dt_var rfl) dt_int rfl)) (da_cons (dt_ixT (dt_var rfl) dt_int rfl) (da_cons (dt_ixT (dt_var rfl) dt_int rfl) (da_cons (dt_var rfl) da_nil))))) ⟨M, _, _, r, i, rfl, hI.rl, h1, h4, by omega, rfl⟩)) ?_
    refine ds_if (b := D.isN (loadD M (x i))) (db_b (dt_isN (dt_var rfl))) ?_
    rw [ea]
    unfold loadD endD
    by_cases hb : (x i).2 ≤ M.bear
    · have hb' : ¬ (x i).2 > M.bear := by omega
      rw [if_neg hb', if_pos hb]
      show DS K _ _ _ _
      refine ds_drop (r := .dat .non) ?_
      refine dt_append (n := 0) (ds := acc i) (m1 := [.lst (acc i)]) (m2 := [.lst (acc i)]) (dt_var rfl) (da_cons ?_ da_nil) rfl rfl hacc
      exact dt_tup (da_cons (dt_ixT (dt_ixT (dt_prop (dt_var rfl) rfl) (dt_ixT (dt_var rfl) dt_int rfl) (road_at hI.rl)) dt_int rfl) (da_cons (dt_ixT (dt_var rfl) dt_int rfl) (da_cons (dt_ixT (dt_var rfl) dt_int rfl) (da_cons (dt_i0 (dt_ixT (dt_var rfl) dt_int rfl) (dt_var rfl)) da_nil))))
    · have hb' : (x i).2 > M.bear := by omega
      rw [if_pos hb', if_neg hb]
      show DS K _ _ _ _
      refine ds_drop (r := .dat .non) ?_
      exact dt_append (n := 0) (ds := acc i) (m1 := [.lst (acc i)]) (m2 := [.lst (acc i)]) (dt_var rfl) (da_cons dt_non da_nil) rfl rfl hacc
  · exact ds_ret (dt_frz (n := 0) (m1 := [.lst (acc (s.l + 1).toNat)]) (dt_var rfl) rfl)
end
end K2
end
section
set_option Elab.async false
set_option linter.all false
set_option maxRecDepth 100000
set_option maxHeartbeats 4000000
namespace K2
open PySem PySem.Spec PyProof.Rows L2 DL
section
variable {K : PySem.W.Frag} {ss ss1 ss2 : Sl} {mem m1 m2 m3 m4 : List Mc} {t u : TS} {out : Out} {te : TE}
theorem ds_guard {c : TT} (h : DB K c ss mem false m1) (g : DS K u ss m1 out) : DS K (tSeq (tIfS c t tNext) u) ss mem out := ds_seq (ds_if_f h ds_next) g
theorem db_nt (h : DT K te ss mem (.dat (.bl true)) m1) : DB K (tNot (tB te)) ss mem false m1 := db_not (db_b h)
theorem bt {i lo hi : Int} (h1 : lo ≤ i) (h2 : i ≤ hi) : D.bl true = .bl (decide (lo ≤ i) && decide (i ≤ hi)) := by
  rw [decide_eq_true h1, decide_eq_true h2]
  rfl
theorem gt {n : Int} {es : List D} (h : (es.length : Int) = n) : D.bl true = .bl (decide ((es.length : Int) = n)) := by rw [decide_eq_true h]
/-- all(..) over turns that all hold -/
theorem dt_allT {wi : TI} {g : TG} {vs : List Nat} {n : Nat} {it : Nat → D} (hi : DI K wi ss mem n it m1) (hn : n ≤ 16777216)
    (step : ∀ i, i < n → ∃ s1 ws, DG K g (wipeS ss vs) (it i) s1 ws ∧ (∀ w ∈ ws, w ∈ vs) ∧ DT K te s1 m1 (.dat (.bl true)) m1) : DT K (tCB (rAll K) (tCons (tLc wi g tYes te vs) tNil)) ss mem (.dat (.bl true)) m1 := by
  have h := dt_all (bs := (List.range n).map fun _ => true) (by rw [List.map_map]; exact dt_lcMap hi (fun _ => .bl true) hn step)
  have e : ((List.range n).map fun _ => true).all id = true := by simp
  rw [e] at h
  exact h
end
section
variable {P : Program} {w : World} {K : PySem.W.Frag} {mg : Str → Option Value} {base : Heap} {k : Nat}
def isTrue (Q : List D → Prop) (ds : List D) (d : D) : Prop := Q ds ∧ d = .bl true
/-! ### the parts of a map -/
theorem ok_is_road (T : Txt K mg) : FnOk P w K mg base CX0 3 T.a_is_road T.fd_is_road ["places", "road"] (spP K 2 (isTrue fun ds => ∃ n r, ds = [.int n, roadD r] ∧ r.Ok n)) := by
  refine fnP T.F_is_road sc_is_road rfl (fun cdv A outer s H E hr => ?_)
  refine ⟨_, (pss_cons (ps_if (pt_not (pt_val (pe_call (ok_is_group T) (hr.mono (by decide)) (by rfl) T.g_is_group T.F_is_group.kp T.b_is_group .nil pass0 (pa_cons (pv 1) (pa_cons pe_int pa_nil))))) (pss_one (ps_ret pe_bl)) pss_nil)
  (pss_cons (ps_asg (pv 1) (pgTup K 4 (pgs_cons (pg_name (i := 2) sc_is_road.nd rfl (.inl rfl)) (pgs_cons (pg_name (i := 3) sc_is_road.nd rfl (.inl rfl)) (pgs_cons (pg_name (i := 4) sc_is_road.nd rfl (.inl rfl)) (pgs_cons (pg_name (i := 5) sc_is_road.nd rfl (.inl rfl)) pgs_nil))))))
  (pss_cons (ps_if (PW.pt (pw_or (pt_not (pt_val (pe_call (ok_is_between T) (hr.mono (by decide)) (by rfl) T.g_is_between T.F_is_between.kp T.b_is_between .nil pass0 (pa_cons (pv 2) (pa_cons pe_int (pa_cons (pe_op op_sub (pv 0) pe_int) pa_nil)))))) (pw_or1 (pt_not (pt_val (pe_call (ok_is_between T) (hr.mono (by decide)) (by rfl) T.g_is_between T.F_is_between.kp T.b_is_between .nil pass0 (pa_cons (pv 3) (pa_cons pe_int (pa_cons (pe_op op_sub (pv 0) pe_int) pa_nil))))))))) (pss_one (ps_ret pe_bl)) pss_nil)
  (pss_one (ps_ret (pe_and (pe_cmpR op_lt (pv 2) (pv 3) (nomark _)) (pe_and (pe_call (ok_is_between T) (hr.mono (by decide)) (by rfl) T.g_is_between T.F_is_between.kp T.b_is_between .nil pass0 (pa_cons (pv 4) (pa_cons pe_int (pa_cons (pe_globI (by rfl) T.k_MOST_HOURS) pa_nil)))) (pe_one (pe_call (ok_is_between T) (hr.mono (by decide)) (by rfl) T.g_is_between T.F_is_between.kp T.b_is_between .nil pass0 (pa_cons (pv 5) (pa_cons pe_int (pa_cons (pe_globI (by rfl) T.k_MOST_MELT) pa_nil)))))))))))), ?_⟩
  rintro ds d ⟨⟨n, r, rfl, h⟩, rfl⟩ -
  have a0 := h.a0
  have ab := h.ab
  have bn := h.bn
  have h1 := h.h1
  have h4 := h.h4
  have m0 := h.m0
  have m3 := h.m3
  refine .rt (ds_guard (db_nt (dt_call (da_cons (dt_var rfl) (da_cons dt_int da_nil)) ⟨_, _, rfl, rfl⟩)) ?_)
  refine ds_seq (ds_asg (dt_var rfl) (dg_tup (dgs_cons dg_name (dgs_cons dg_name (dgs_cons dg_name (dgs_cons dg_name dgs_nil)))) rfl)) ?_
  refine ds_guard (db_or_f (db_nt (dt_call (da_cons (dt_var rfl) (da_cons dt_int (da_cons (dt_i0 (dt_var rfl) dt_int) da_nil))) ⟨r.a, 0, n - 1, rfl, bt a0 (by omega)⟩)) (db_nt (dt_call (da_cons (dt_var rfl) (da_cons dt_int (da_cons (dt_i0 (dt_var rfl) dt_int) da_nil))) ⟨r.b, 0, n - 1, rfl, bt (by omega) bn⟩))) ?_
  refine ds_ret (dt_andV_t (b := true) ?_ (dt_andV_t (b := true) (dt_call (da_cons (dt_var rfl) (da_cons dt_int (da_cons dt_int da_nil))) ⟨r.h, 1, 4, rfl, bt h1 h4⟩) (dt_call (da_cons (dt_var rfl) (da_cons dt_int (da_cons dt_int da_nil))) ⟨r.m, 0, 3, rfl, bt m0 m3⟩)))
  have q : DT K (tOp (rI0 fun i j => V.bl (decide (i < j))) (tVar 2) (tVar 3)) [some (.dat (.int n)), some (.dat (roadD r)), some (.dat (.int r.a)), some (.dat (.int r.b)), some (.dat (.int r.h)), some (.dat (.int r.m))] [] (.dat (.bl (decide (r.a < r.b)))) [] := dt_i0b (dt_var rfl) (dt_var rfl)
  rw [decide_eq_true ab] at q
  exact q
theorem ok_are_roads (T : Txt K mg) : FnOk P w K mg base CX0 4 T.a_are_roads T.fd_are_roads ["places", "roads"] (spP K 2 (isTrue fun ds => ∃ M : MapD, ds = [.int M.places, .tup (M.roads.map roadD)] ∧ M.Ok)) := by
  refine fnP T.F_are_roads sc_are_roads rfl (fun cdv A outer s H E hr => ?_)
  refine ⟨_, (pss_cons (ps_if (PW.pt (pw_or (pt_not (pt_val (pe_callB (callIsi K) (by rfl) T.n_isinstance (by decide +kernel) (pa_cons (pv 1) (pa_cons (pe_bltn (v := .ty "tuple") (by rfl) T.n_tuple (by decide +kernel) rfl) pa_nil))))) (pw_or1 (pt_not (pt_chain op_le op_le pe_int (pe_callB (callLen K) (by rfl) T.n_len PySem.boot_len (pa_cons (pv 1) pa_nil)) (pe_globI (by rfl) T.k_MOST_ROADS)))))) (pss_one (ps_ret pe_bl)) pss_nil)
  (pss_cons (ps_if (pt_not (pt_val (pe_callB (crAll K) (by rfl) T.n_all (by decide +kernel) (pa_cons (pe_lc (own := [("road", 2)]) rfl sc_are_roads.nd (piTup K (pv 1)) (blkOk_by (own := [("road", 2)]) (N := ["places", "roads", "road", "at"]) (sc := defScope s_are_roads) (by decide +kernel)) (fun _ _ _ _ _ => (pg_name (i := 2) sc_are_roads.nd rfl (.inl rfl))) (fun _ _ _ _ _ => pts_nil) (fun _ _ _ _ _ => (pe_call (ok_is_road T) (hr.mono (by decide)) (by rfl) T.g_is_road T.F_is_road.kp T.b_is_road .nil pass0 (pa_cons (pv 0) (pa_cons (pv 2) pa_nil))))) pa_nil)))) (pss_one (ps_ret pe_bl)) pss_nil)
  (pss_one (ps_ret (pe_callB (crAll K) (by rfl) T.n_all (by decide +kernel) (pa_cons (pe_lc (own := [("at", 3)]) rfl sc_are_roads.nd (pi_range1 (by rfl) T.n_range (pa_cons (pe_op op_sub (pe_callB (callLen K) (by rfl) T.n_len PySem.boot_len (pa_cons (pv 1) pa_nil)) pe_int) pa_nil)) (blkOk_by (own := [("at", 3)]) (N := ["places", "roads", "road", "at"]) (sc := defScope s_are_roads) (by decide +kernel)) (fun _ _ _ _ _ => (pg_name (i := 3) sc_are_roads.nd rfl (.inl rfl))) (fun _ _ _ _ _ => pts_nil) (fun _ _ _ _ _ => (pe_cmpR (opLtT K hr.units0) (pe_ix (ixT K) (pv 1) (pv 3) (fun _ _ => rfl)) (pe_ix (ixT K) (pv 1) (pe_op op_add (pv 3) pe_int) (fun _ _ => rfl)) (nomark _)))) pa_nil)))))), ?_⟩
  rintro ds d ⟨⟨M, rfl, h⟩, rfl⟩ -
  have r1 := h.r1
  have r7 := h.r7
  have e : (M.roads.map roadD).length = M.roads.length := List.length_map _
  refine .rt (ds_guard (m1 := []) (db_or_f (m1 := []) (db_nt (dt_isi (dt_var rfl) rfl (by decide +kernel))) ?_) ?_)
  · have q : DB K (tNot (tTest (tChain (rI0 fun i j => V.bl (decide (i ≤ j))) (rI0 fun i j => V.bl (decide (i ≤ j))) (tC (.int 1)) (tCB _ (tCons (tVar 1) tNil)) (tC (.int 7))))) [some (.dat (.int M.places)), some (.dat (.tup (M.roads.map roadD))), none, none] [] (!(decide ((1 : Int) ≤ ((M.roads.map roadD).length : Int)) && decide (((M.roads.map roadD).length : Int) ≤ 7))) [] :=
      db_not (db_test (dt_chain dt_int (dt_lenT (dt_var rfl)) dt_int))
    rw [decide_eq_true (show (1 : Int) ≤ ((M.roads.map roadD).length : Int) by omega), decide_eq_true (show ((M.roads.map roadD).length : Int) ≤ 7 by omega)] at q
    exact q
  refine ds_guard (db_nt (dt_allT (di_tup (dt_var rfl)) (by omega) fun i hi => ?_)) ?_
  · rw [e] at hi
    refine ⟨_, _, dg_name, by decide, ?_⟩
    rw [nth_map roadD hi ⟨0, 0, 0, 0⟩]
    refine dt_call (da_cons (dt_var rfl) (da_cons (dt_var rfl) da_nil)) ⟨⟨M.places, _, rfl, h.rd _ ?_⟩, rfl⟩
    rw [List.getD_eq_getElem?_getD, List.getElem?_eq_getElem hi]
    exact List.getElem_mem hi
  · refine ds_ret (dt_allT (di_rng1 (da_cons (dt_i0 (dt_lenT (dt_var rfl)) dt_int) da_nil) (by omega) (by omega)) (by omega) fun i hi => ?_)
    refine ⟨_, _, dg_name, by decide, ?_⟩
    have hi2 : i + 1 < M.roads.length := by omega
    have q : DT K (tOp (rLtT K) (tOp (rIxT K) (tVar 1) (tVar 3)) (tOp (rIxT K) (tVar 1) (tOp (rI0 fun i j => V.int (i + j)) (tVar 3) (tC (.int 1))))) [some (.dat (.int M.places)), some (.dat (.tup (M.roads.map roadD))), none, some (.dat (.int (0 + (i : Nat))))] [] (.dat (.bl (HT.lexLt (M.road i).row (M.road (i + 1)).row))) [] := by
      refine dt_ltT (dt_ixT (dt_var rfl) (dt_var rfl) ?_) (dt_ixT (dt_var rfl) (dt_i0 (dt_var rfl) dt_int) ?_)
      · rw [Int.zero_add]
        exact road_at (by omega)
      · have e2 : (0 : Int) + (i : Nat) + 1 = ((i + 1 : Nat) : Int) := by omega
        rw [e2]
        exact road_at hi2
    rw [h.asc i hi2] at q
    exact q
theorem ok_are_prices (T : Txt K mg) : FnOk P w K mg base CX0 3 T.a_are_prices T.fd_are_prices ["places", "prices"] (spP K 2 (isTrue fun ds => ∃ M : MapD, ds = [.int M.places, .tup (M.prices.map optD)] ∧ M.Ok)) := by
  refine fnP T.F_are_prices sc_are_prices rfl (fun cdv A outer s H E hr => ?_)
  refine ⟨_, (pss_cons (ps_if (pt_not (pt_val (pe_call (ok_is_group T) (hr.mono (by decide)) (by rfl) T.g_is_group T.F_is_group.kp T.b_is_group .nil pass0 (pa_cons (pv 1) (pa_cons (pv 0) pa_nil))))) (pss_one (ps_ret pe_bl)) pss_nil)
  (pss_one (ps_ret (pe_callB (crAll K) (by rfl) T.n_all (by decide +kernel) (pa_cons (pe_lc (own := [("price", 2)]) rfl sc_are_prices.nd (piTup K (pv 1)) (blkOk_by (own := [("price", 2)]) (N := ["places", "prices", "price"]) (sc := defScope s_are_prices) (by decide +kernel)) (fun _ _ _ _ _ => (pg_name (i := 2) sc_are_prices.nd rfl (.inl rfl))) (fun _ _ _ _ _ => pts_nil) (fun _ _ _ _ _ => (pe_or (pe_cmp (pc_isN (pv 2)) rfl) (pe_one (pe_call (ok_is_between T) (hr.mono (by decide)) (by rfl) T.g_is_between T.F_is_between.kp T.b_is_between .nil pass0 (pa_cons (pv 2) (pa_cons pe_int (pa_cons (pe_globI (by rfl) T.k_MOST_PRICE) pa_nil)))))))) pa_nil))))), ?_⟩
  rintro ds d ⟨⟨M, rfl, h⟩, rfl⟩ -
  have p5 := h.p5
  have pl := h.pl
  have e : (M.prices.map optD).length = M.prices.length := List.length_map _
  refine .rt (ds_guard (db_nt (dt_call (da_cons (dt_var rfl) (da_cons (dt_var rfl) da_nil)) ⟨_, _, rfl, gt (by rw [e]; exact pl)⟩)) ?_)
  refine ds_ret (dt_allT (di_tup (dt_var rfl)) (by omega) fun i hi => ⟨_, _, dg_name, by decide, ?_⟩)
  rw [e] at hi
  rw [nth_map optD hi none]
  have hm : M.prices.getD i none ∈ M.prices := by
    rw [List.getD_eq_getElem?_getD, List.getElem?_eq_getElem hi]
    exact List.getElem_mem hi
  cases q : M.prices.getD i none with
  | none => exact dt_orV_t (dt_isN (d := .non) (dt_var rfl))
  | some x =>
    obtain ⟨h1, h2⟩ := h.pr _ hm x q
    exact dt_orV_f (dt_isN (d := .int x) (dt_var rfl)) (dt_call (da_cons (dt_var rfl) (da_cons dt_int (da_cons dt_int da_nil))) ⟨x, 1, 9, rfl, bt h1 h2⟩)
theorem ok_is_box (T : Txt K mg) : FnOk P w K mg base CX0 3 T.a_is_box T.fd_is_box ["box"] (spP K 1 (isTrue fun ds => ∃ M : MapD, ds = [.tup [.int M.room, .int M.bear]] ∧ M.Ok)) := by
  refine fnP T.F_is_box sc_is_box rfl (fun cdv A outer s H E hr => ?_)
  refine ⟨_, (pss_one (ps_ret (pe_and (pe_call (ok_is_group T) (hr.mono (by decide)) (by rfl) T.g_is_group T.F_is_group.kp T.b_is_group .nil pass0 (pa_cons (pv 0) (pa_cons pe_int pa_nil))) (pe_and (pe_call (ok_is_between T) (hr.mono (by decide)) (by rfl) T.g_is_between T.F_is_between.kp T.b_is_between .nil pass0 (pa_cons (pe_ix (ixT K) (pv 0) pe_int (fun _ _ => rfl)) (pa_cons pe_int (pa_cons (pe_globI (by rfl) T.k_MOST_ROOM) pa_nil)))) (pe_one (pe_call (ok_is_between T) (hr.mono (by decide)) (by rfl) T.g_is_between T.F_is_between.kp T.b_is_between .nil pass0 (pa_cons (pe_ix (ixT K) (pv 0) pe_int (fun _ _ => rfl)) (pa_cons pe_int (pa_cons (pe_globI (by rfl) T.k_MOST_BEAR) pa_nil))))))))), ?_⟩
  rintro ds d ⟨⟨M, rfl, h⟩, rfl⟩ -
  have m1 := h.m1
  have m6 := h.m6
  have b0 := h.b0
  have b2 := h.b2
  exact .rt (ds_ret (dt_andV_t (b := true) (dt_call (da_cons (dt_var rfl) (da_cons dt_int da_nil)) ⟨_, _, rfl, rfl⟩)
    (dt_andV_t (b := true) (dt_call (da_cons (dt_ixT (dt_var rfl) dt_int rfl) (da_cons dt_int (da_cons dt_int da_nil))) ⟨M.room, 1, 6, rfl, bt m1 m6⟩) (dt_call (da_cons (dt_ixT (dt_var rfl) dt_int rfl) (da_cons dt_int (da_cons dt_int da_nil))) ⟨M.bear, 0, 2, rfl, bt b0 b2⟩))))
/-! ### Map(..) -/
def R_init (C : Addr) (m : Mc) (ds : List D) (d : D) (m' : Mc) : Prop := ∃ M : MapD, M.Ok ∧ m = .obj C [] ∧ ds = [.int M.places, .tup (M.roads.map roadD), .tup (M.prices.map optD), .tup [.int M.room, .int M.bear]] ∧ d = .non ∧ m' = .obj C (mapFs M)
theorem ok_Map___init__ (T : Txt K mg) : FnOk P w K mg base CX0 5 T.a_Map___init__ T.fd_Map___init__ ["self", "places", "roads", "prices", "box"] (spO K 5 (R_init T.C_Map)) := by
  refine fnO T.F_Map___init__ sc_Map___init__ rfl (fun cdv A outer s H E hr => ?_)
  refine ⟨_, (pss_cons (ps_if (pt_not (pt_val (pe_call (ok_is_between T) (hr.mono (by decide)) (by rfl) T.g_is_between T.F_is_between.kp T.b_is_between .nil pass0 (pa_cons (pv 1) (pa_cons pe_int (pa_cons (pe_globI (by rfl) T.k_MOST_PLACES) pa_nil)))))) (pss_one ps_never) pss_nil)
  (pss_cons (ps_if (pt_not (pt_val (pe_call (ok_are_roads T) (hr.mono (by decide)) (by rfl) T.g_are_roads T.F_are_roads.kp T.b_are_roads .nil pass0 (pa_cons (pv 1) (pa_cons (pv 2) pa_nil))))) (pss_one ps_never) pss_nil)
  (pss_cons (ps_if (pt_not (pt_val (pe_call (ok_are_prices T) (hr.mono (by decide)) (by rfl) T.g_are_prices T.F_are_prices.kp T.b_are_prices .nil pass0 (pa_cons (pv 1) (pa_cons (pv 3) pa_nil))))) (pss_one ps_never) pss_nil)
  (pss_cons (ps_if (pt_not (pt_val (pe_call (ok_is_box T) (hr.mono (by decide)) (by rfl) T.g_is_box T.F_is_box.kp T.b_is_box .nil pass0 (pa_cons (pv 4) pa_nil)))) (pss_one ps_never) pss_nil)
  (pss_cons (ps_fld (pv 0) (pv 1) rfl)
  (pss_cons (ps_fld (pv 0) (pv 2) rfl)
  (pss_cons (ps_fld (pv 0) (pv 3) rfl)
  (pss_one (ps_fld (pv 0) (pv 4) rfl))))))))), ?_⟩
  rintro m ds d m' ⟨M, h, rfl, rfl, rfl, rfl⟩ -
  have p2 := h.p2
  have p5 := h.p5
  refine .nx (s := [some (.own 0), some (.dat (.int M.places)), some (.dat (.tup (M.roads.map roadD))), some (.dat (.tup (M.prices.map optD))), some (.dat (.tup [.int M.room, .int M.bear]))]) ?_
  refine ds_guard (db_nt (dt_call (da_cons (dt_var rfl) (da_cons dt_int (da_cons dt_int da_nil))) ⟨M.places, 2, 5, rfl, bt p2 p5⟩)) ?_
  refine ds_guard (db_nt (dt_call (da_cons (dt_var rfl) (da_cons (dt_var rfl) da_nil)) ⟨⟨M, rfl, h⟩, rfl⟩)) ?_
  refine ds_guard (db_nt (dt_call (da_cons (dt_var rfl) (da_cons (dt_var rfl) da_nil)) ⟨⟨M, rfl, h⟩, rfl⟩)) ?_
  refine ds_guard (db_nt (dt_call (da_cons (dt_var rfl) da_nil) ⟨⟨M, rfl, h⟩, rfl⟩)) ?_
  refine ds_seq (ds_fld (n := 0) (dt_var rfl) (dt_var rfl) rfl T.cl T.na_Map__places (Nat.le_of_ble_eq_true rfl)) ?_
  refine ds_seq (ds_fld (n := 0) (dt_var rfl) (dt_var rfl) rfl T.cl T.na_Map__roads (Nat.le_of_ble_eq_true rfl)) ?_
  refine ds_seq (ds_fld (n := 0) (dt_var rfl) (dt_var rfl) rfl T.cl T.na_Map__prices (Nat.le_of_ble_eq_true rfl)) ?_
  exact ds_fld (n := 0) (m2 := [.obj T.C_Map [("_places", .int M.places), ("_roads", .tup (M.roads.map roadD)), ("_prices", .tup (M.prices.map optD))]]) (dt_var rfl) (dt_var rfl) rfl T.cl T.na_Map__box (Nat.le_of_ble_eq_true rfl)
/-! ### states, moves -/
def R_is_state (C : Addr) : List D → Prop := fun ds => ∃ M s, ds = [mapD C M, stD s] ∧ s.Ok M
theorem ok_is_state (T : Txt K mg) : FnOk P w K mg base CX0 3 T.a_is_state T.fd_is_state ["chart", "state"] (spP K 2 (isTrue (R_is_state T.C_Map))) := by
  refine fnP T.F_is_state sc_is_state rfl (fun cdv A outer s H E hr => ?_)
  refine ⟨_, (pss_cons (ps_if (pt_not (pt_val (pe_call (ok_is_group T) (hr.mono (by decide)) (by rfl) T.g_is_group T.F_is_group.kp T.b_is_group .nil pass0 (pa_cons (pv 1) (pa_cons pe_int pa_nil))))) (pss_one (ps_ret pe_bl)) pss_nil)
  (pss_cons (ps_asg (pe_prop (pv 0) T.cl T.PO_box (get_box (k := 0) T) (hr.mono (by decide)) T.b_Map_box .nil pass0 rfl) (pgTup K 2 (pgs_cons (pg_name (i := 2) sc_is_state.nd rfl (.inl rfl)) (pgs_cons (pg_name (i := 3) sc_is_state.nd rfl (.inl rfl)) pgs_nil))))
  (pss_cons (ps_set (i := 4) sc_is_state.nd rfl (.inl rfl) (pe_tup (pa_cons (pe_op op_sub (pe_prop (pv 0) T.cl T.PO_places (get_places (k := 0) T) (hr.mono (by decide)) T.b_Map_places .nil pass0 rfl) pe_int) (pa_cons (pv 2) (pa_cons (pv 3) (pa_cons (pe_globI (by rfl) T.k_MOST_LATE) pa_nil))))))
  (pss_one (ps_ret (pe_callB (crAll K) (by rfl) T.n_all (by decide +kernel) (pa_cons (pe_lc (own := [("part", 5), ("top", 6)]) rfl sc_is_state.nd (RZ.pi_zipA (by rfl) T.n_zip (pa_cons (pv 1) (pa_cons (pv 4) pa_nil))) (blkOk_by (own := [("part", 5), ("top", 6)]) (N := ["chart", "state", "room", "bear", "tops", "part", "top"]) (sc := defScope s_is_state) (by decide +kernel)) (fun _ _ _ _ _ => (pgTup K 2 (pgs_cons (pg_name (i := 5) sc_is_state.nd rfl (.inl rfl)) (pgs_cons (pg_name (i := 6) sc_is_state.nd rfl (.inl rfl)) pgs_nil)))) (fun _ _ _ _ _ => pts_nil) (fun _ _ _ _ _ => (pe_call (ok_is_between T) (hr.mono (by decide)) (by rfl) T.g_is_between T.F_is_between.kp T.b_is_between .nil pass0 (pa_cons (pv 5) (pa_cons pe_int (pa_cons (pv 6) pa_nil)))))) pa_nil))))))), ?_⟩
  rintro ds d ⟨⟨M, s, rfl, h⟩, rfl⟩ -
  refine .rt (ds_guard (db_nt (dt_call (da_cons (dt_var rfl) (da_cons dt_int da_nil)) ⟨_, _, rfl, rfl⟩)) ?_)
  refine ds_seq (ds_asg (dt_prop (dt_var rfl) rfl) (dg_tup (dgs_cons dg_name (dgs_cons dg_name dgs_nil)) rfl)) ?_
  refine ds_seq (ds_set (dt_tup (da_cons (dt_i0 (dt_prop (dt_var rfl) rfl) dt_int) (da_cons (dt_var rfl) (da_cons (dt_var rfl) (da_cons dt_int da_nil)))))) ?_
  refine ds_ret (dt_allT (di_zipT (da_cons (dt_var rfl) (da_cons (dt_var rfl) da_nil)) rfl) (by exact Nat.le_of_ble_eq_true rfl) fun i hi => ⟨_, _, dg_tup (dgs_cons dg_name (dgs_cons dg_name dgs_nil)) rfl, by decide, ?_⟩)
  have hi4 : i < 4 := hi
  match i, hi4 with
  | 0, _ => exact dt_call (da_cons (dt_var rfl) (da_cons dt_int (da_cons (dt_var rfl) da_nil))) ⟨s.p, 0, M.places - 1, rfl, bt h.p0 h.p1⟩
  | 1, _ => exact dt_call (da_cons (dt_var rfl) (da_cons dt_int (da_cons (dt_var rfl) da_nil))) ⟨s.i, 0, M.room, rfl, bt h.i0 h.i1⟩
  | 2, _ => exact dt_call (da_cons (dt_var rfl) (da_cons dt_int (da_cons (dt_var rfl) da_nil))) ⟨s.w, 0, M.bear, rfl, bt h.w0 h.w1⟩
  | 3, _ => exact dt_call (da_cons (dt_var rfl) (da_cons dt_int (da_cons (dt_var rfl) da_nil))) ⟨s.l, 0, 4, rfl, bt h.l0 h.l1⟩
theorem flatAll_of {n : Nat} : ∀ {ds : List D}, (∀ d ∈ ds, D.flat n d = true) → D.flatAll n ds = true
  | [], _ => by simp [D.flatAll]
  | d :: ds, h => by
    rw [D.flatAll, Bool.and_eq_true]
    exact ⟨h d List.mem_cons_self, flatAll_of fun x hx => h x (List.mem_cons_of_mem _ hx)⟩
theorem moves_mem {M : MapD} {s : StD} {d : D} (h : d ∈ M.moves s) : ∃ p r, d = mvD p r ∧ r ∈ M.lead s.p := by
  unfold MapD.moves at h
  obtain ⟨i, _, h2⟩ := List.mem_flatMap.mp h
  obtain ⟨r, h3, h4⟩ := List.mem_map.mp h2
  exact ⟨i, r, h4.symm, h3⟩
theorem flat_mv (p r : Nat) (n : Nat) : D.flat (n + 1) (mvD p r) = true := by
  cases n <;> simp [mvD, D.flat, D.flatAll]
theorem flat_moves (M : MapD) (s : StD) : D.flat 3 (.lst (M.moves s)) = true := by
  rw [D.flat]
  exact flatAll_of fun d hd => by
    obtain ⟨p, r, rfl, _⟩ := moves_mem hd
    exact flat_mv p r 1
def R_is_move (C : Addr) : List D → Prop := fun ds => ∃ M s p r, ds = [mapD C M, stD s, mvD p r] ∧ InR M s ∧ mvD p r ∈ M.moves s
/-! ### checks -/
def isNone (Q : List D → Prop) (ds : List D) (d : D) : Prop := Q ds ∧ d = .non
theorem ok_check_map (T : Txt K mg) : FnOk P w K mg base CX0 1 T.a_check_map T.fd_check_map ["chart"] (spP K 1 (isNone fun ds => ∃ M, ds = [mapD T.C_Map M])) := by
  refine fnP T.F_check_map sc_check_map rfl (fun cdv A outer s H E hr => ?_)
  refine ⟨_, (pss_one (ps_if (pt_not (pt_val (pe_callB (callIsi K) (by rfl) T.n_isinstance (by decide +kernel) (pa_cons (pv 0) (pa_cons (pe_glob (v := .ref T.C_Map) (by rfl) T.g_Map rfl) pa_nil))))) (pss_one ps_never) pss_nil)), ?_⟩
  rintro ds d ⟨⟨M, rfl⟩, rfl⟩ -
  exact .nx (ds_if_f (db_nt (dt_isiC (dt_var rfl) T.T_Map)) ds_next)
theorem ok_check_state (T : Txt K mg) : FnOk P w K mg base CX0 4 T.a_check_state T.fd_check_state ["chart", "state"] (spP K 2 (isNone (R_is_state T.C_Map))) := by
  refine fnP T.F_check_state sc_check_state rfl (fun cdv A outer s H E hr => ?_)
  refine ⟨_, (pss_one (ps_if (pt_not (pt_val (pe_call (ok_is_state T) (hr.mono (by decide)) (by rfl) T.g_is_state T.F_is_state.kp T.b_is_state .nil pass0 (pa_cons (pv 0) (pa_cons (pv 1) pa_nil))))) (pss_one ps_never) pss_nil)), ?_⟩
  rintro ds d ⟨⟨M, s, rfl, h⟩, rfl⟩ -
  exact .nx (ds_if_f (db_nt (dt_call (da_cons (dt_var rfl) (da_cons (dt_var rfl) da_nil)) ⟨⟨M, s, rfl, h⟩, rfl⟩)) ds_next)
end
end K2
end
section
set_option Elab.async false
set_option linter.all false
set_option maxRecDepth 100000
set_option maxHeartbeats 4000000
namespace K2
open PySem PySem.Spec PyProof.Rows L2 DL
/-! ### the law's draws -/
def primes : List Int := [1000003, 1000033, 1000037, 1000039, 1000081, 1000099, 1000117, 1000121, 1000133, 1000151, 1000159, 1000171, 1000183, 1000187, 1000193, 1000199]
def cellAt (ns : List Int) (k : Int) : Int := if k < ns.length then ns.getD k.toNat 0 else 0
def drawV (c k b : Int) : Int := (c * 48271 + k * 69621) % primes.getD (k % 16).toNat 0 % b
def powN : Nat → Int
  | 0 => 1
  | n + 1 => powN n * 1009
def numV (c k b : Int) : Int :=
  if (c - 10 ^ 18) / powN (k % 24).toNat > 0 then (c - 10 ^ 18) / powN (k % 24).toNat % 1009 % b
  else drawV ((c % 1000003 + 977 * k) * (c % 1000003 + 31 * k + 5)) (k % 9 + 1) 999983 % b
/-- the n-th number that is drawn, below b -/
def nxt (ns : List Int) (y n b : Int) : Int := numV (cellAt ns (y + n / 12) + 31 * (n / 12)) (n % 12 + 1) b
theorem numV_bd {c k b : Int} (h : 0 < b) : 0 ≤ numV c k b ∧ numV c k b < b := by
  unfold numV
  split
  · exact ⟨Int.emod_nonneg _ (by omega), Int.emod_lt_of_pos _ h⟩
  · exact ⟨Int.emod_nonneg _ (by omega), Int.emod_lt_of_pos _ h⟩
theorem nxt_bd {ns : List Int} {y n b : Int} (h : 0 < b) : 0 ≤ nxt ns y n b ∧ nxt ns y n b < b := numV_bd h
theorem powN_bd : ∀ n, n ≤ 24 → 0 < powN n ∧ (powN n).natAbs < 2 ^ 240 := by
  have h : ∀ n : Nat, 0 < powN n ∧ (powN n).natAbs < 2 ^ (10 * n + 1) := fun n => by
    induction n with
    | zero => exact ⟨by decide, by decide⟩
    | succ n ih =>
      obtain ⟨h1, h2⟩ := ih
      refine ⟨?_, ?_⟩
      · show 0 < powN n * 1009
        omega
      · show (powN n * 1009).natAbs < 2 ^ (10 * (n + 1) + 1)
        rw [Int.natAbs_mul, show 10 * (n + 1) + 1 = 10 * n + 1 + 10 by omega, Nat.pow_add]
        have : Int.natAbs 1009 = 1009 := rfl
        rw [this]
        have e : (2 : Nat) ^ 10 = 1024 := by decide
        rw [e]
        omega
  intro n hn
  obtain ⟨h1, h2⟩ := h n
  by_cases h24 : n = 24
  · subst h24
    exact ⟨h1, by decide +kernel⟩
  · exact ⟨h1, Nat.lt_of_lt_of_le h2 (Nat.pow_le_pow_right (by decide) (by omega))⟩
section
variable {P : Program} {w : World} {K : PySem.W.Frag} {mg : Str → Option Value} {base : Heap} {k : Nat}
theorem ok__law_cell_at (T : Txt K mg) : FnOk P w K mg base CX0 1 T.a__law_cell_at T.fd__law_cell_at ["_law_script", "_law_k"] (spP K 2 fun ds d => ∃ (ns : List Int) (k : Int), ds = [.lst (ns.map .int), .int k] ∧ 0 ≤ k ∧ d = .int (cellAt ns k)) := by
  refine fnP T.F__law_cell_at sc__law_cell_at rfl (fun cdv A outer s H E hr => ?_)
  refine ⟨_, (pss_cons (ps_if (pt_cmpR op_lt (pv 1) (pe_callB (callLen K) (by rfl) T.n_len PySem.boot_len (pa_cons (pv 0) pa_nil)) (nomark _)) (pss_one (ps_ret (pe_ix (ixL K) (pv 0) (pv 1) (fun _ _ => rfl)))) pss_nil)
  (pss_one (ps_ret pe_int))), ?_⟩
  rintro ds d ⟨ns, k, rfl, h0, rfl⟩ -
  have hl : ((ns.map D.int).length : Int) = ns.length := by rw [List.length_map]
  refine .rt ?_
  unfold cellAt
  by_cases h : k < ns.length
  · rw [if_pos h]
    refine ds_stop (ds_if (b := decide (k < ((ns.map D.int).length : Int))) (db_test (dt_i0b (dt_var rfl) (dt_lenL (dt_var rfl)))) ?_)
    rw [if_pos (decide_eq_true (by omega))]
    exact ds_ret (dt_ixL (dt_var rfl) (dt_var rfl) (atI_map D.int h0 h 0))
  · rw [if_neg h]
    refine ds_seq (ss1 := [some (.dat (.lst (ns.map .int))), some (.dat (.int k))]) (m1 := []) (ds_if (b := decide (k < ((ns.map D.int).length : Int))) (db_test (dt_i0b (dt_var rfl) (dt_lenL (dt_var rfl)))) ?_) (ds_ret dt_int)
    rw [if_neg (by rw [hl]; simpa using h)]
    exact ds_next
theorem prime_pos : ∀ i : Nat, i < 16 → 0 < primes.getD i 0 := by decide
theorem ok__law_draw (T : Txt K mg) : FnOk P w K mg base CX0 1 T.a__law_draw T.fd__law_draw ["_law_cell", "_law_k", "_law_bound"] (spP K 3 fun ds d => ∃ c k b : Int, ds = [.int c, .int k, .int b] ∧ 0 < b ∧ d = .int (drawV c k b)) := by
  refine fnP T.F__law_draw sc__law_draw rfl (fun cdv A outer s H E hr => ?_)
  refine ⟨_, (pss_cons (ps_set (i := 3) sc__law_draw.nd rfl (.inl rfl) (pe_tup (pa_cons pe_int (pa_cons pe_int (pa_cons pe_int (pa_cons pe_int (pa_cons pe_int (pa_cons pe_int (pa_cons pe_int (pa_cons pe_int (pa_cons pe_int (pa_cons pe_int (pa_cons pe_int (pa_cons pe_int (pa_cons pe_int (pa_cons pe_int (pa_cons pe_int (pa_cons pe_int pa_nil))))))))))))))))))
  (pss_one (ps_ret (pe_op op_mod (pe_op op_mod (pe_callTy call_int1 (by rfl) T.n_int (by decide +kernel) (pa_cons (pe_op op_add (pe_op op_mul (pv 0) pe_int) (pe_op op_mul (pv 1) pe_int)) pa_nil)) (pe_ix (ixT K) (pv 3) (pe_op op_mod (pe_callTy call_int1 (by rfl) T.n_int (by decide +kernel) (pa_cons (pv 1) pa_nil)) pe_int) (fun _ _ => rfl))) (pv 2))))), ?_⟩
  rintro ds d ⟨c, k, b, rfl, hb, rfl⟩ -
  have k0 : 0 ≤ k % 16 := Int.emod_nonneg _ (by omega)
  have k1 : k % 16 < 16 := Int.emod_lt_of_pos _ (by omega)
  refine .rt (ds_seq (ds_set (dt_tup (ds := primes.map .int) (da_cons dt_int (da_cons dt_int (da_cons dt_int (da_cons dt_int (da_cons dt_int (da_cons dt_int (da_cons dt_int (da_cons dt_int (da_cons dt_int (da_cons dt_int (da_cons dt_int (da_cons dt_int (da_cons dt_int (da_cons dt_int (da_cons dt_int (da_cons dt_int da_nil)))))))))))))))))) ?_)
  refine ds_ret (dt_ic (dt_ic (dt_int1 (dt_i0 (dt_ic (dt_var rfl) dt_int (.inr ⟨by decide, by decide⟩)) (dt_ic (dt_var rfl) dt_int (.inr ⟨by decide, by decide⟩)))) (dt_ixT (dt_var rfl) (dt_ic (dt_int1 (dt_var rfl)) dt_int (show (0 : Int) < 16 by decide)) (atI_map D.int k0 (show k % 16 < (primes.length : Int) from k1) 0)) (prime_pos _ (by omega))) (dt_var rfl) hb)
theorem ok__law_number (T : Txt K mg) : FnOk P w K mg base CX0 2 T.a__law_number T.fd__law_number ["_law_cell", "_law_k", "_law_bound"] (spP K 3 fun ds d => ∃ c k b : Int, ds = [.int c, .int k, .int b] ∧ 0 < b ∧ 0 ≤ k ∧ k ≤ 100 ∧ d = .int (numV c k b)) := by
  refine fnP T.F__law_number sc__law_number rfl (fun cdv A outer s H E hr => ?_)
  refine ⟨_, (pss_cons (ps_set (i := 3) sc__law_number.nd rfl (.inl rfl) pe_int)
  (pss_cons (ps_for PassesOwn.never rfl (pi_range1 (by rfl) T.n_range (pa_cons (pe_op op_mod (pe_callTy call_int1 (by rfl) T.n_int (by decide +kernel) (pa_cons (pv 1) pa_nil)) pe_int) pa_nil)) (pg_name (i := 4) sc__law_number.nd rfl (.inl rfl)) (pss_one (ps_set (i := 3) sc__law_number.nd rfl (.inl rfl) (pe_op op_mul (pv 3) pe_int))))
  (pss_cons (ps_set (i := 5) sc__law_number.nd rfl (.inl rfl) (pe_op op_fdivW (pe_op op_sub (pv 0) (pe_op op_pow pe_int pe_int)) (pv 3)))
  (pss_cons (ps_if (pt_cmpR op_gt (pv 5) pe_int (nomark _)) (pss_one (ps_ret (pe_op op_mod (pe_op op_mod (pe_callTy call_int1 (by rfl) T.n_int (by decide +kernel) (pa_cons (pv 5) pa_nil)) pe_int) (pv 2)))) pss_nil)
  (pss_cons (ps_set (i := 6) sc__law_number.nd rfl (.inl rfl) (pe_op op_mod (pe_callTy call_int1 (by rfl) T.n_int (by decide +kernel) (pa_cons (pv 0) pa_nil)) pe_int))
  (pss_one (ps_ret (pe_op op_mod (pe_call (ok__law_draw T) (hr.mono (by decide)) (by rfl) T.g__law_draw T.F__law_draw.kp T.b__law_draw .nil pass0 (pa_cons (pe_op op_mul (pe_op op_add (pv 6) (pe_op op_mul pe_int (pv 1))) (pe_op op_add (pe_op op_add (pv 6) (pe_op op_mul pe_int (pv 1))) pe_int)) (pa_cons (pe_op op_add (pe_op op_mod (pe_callTy call_int1 (by rfl) T.n_int (by decide +kernel) (pa_cons (pv 1) pa_nil)) pe_int) pe_int) (pa_cons pe_int pa_nil)))) (pv 2))))))))), ?_⟩
  rintro ds d ⟨c, k, b, rfl, hb, hk0, hk1, rfl⟩ -
  have k0 : 0 ≤ k % 24 := Int.emod_nonneg _ (by omega)
  have k1 : k % 24 < 24 := Int.emod_lt_of_pos _ (by omega)
  have s0 : 0 ≤ c % 1000003 := Int.emod_nonneg _ (by omega)
  have s1 : c % 1000003 < 1000003 := Int.emod_lt_of_pos _ (by omega)
  obtain ⟨pp, pb⟩ := powN_bd (k % 24).toNat (by omega)
  refine .rt (ds_seq (ds_set dt_int) ?_)
  let f : Nat → Sl := fun n => [some (.dat (.int c)), some (.dat (.int k)), some (.dat (.int b)), some (.dat (.int (powN n))), none, none, none]
  refine ds_seq (ds_forP [4] f rfl (di_rng1 (da_cons (dt_ic (dt_int1 (dt_var rfl)) dt_int (show (0 : Int) < 24 by decide)) da_nil) (by omega) (by omega)) fun i hi => ⟨_, ds_set (dt_ic (dt_var rfl) dt_int (.inr ⟨by decide, by decide⟩)), rfl⟩) ?_
  refine ds_seq (ds_set (dt_ic (dt_i0 (dt_var rfl) (dt_ic dt_int dt_int ⟨by decide, by decide, by decide⟩)) (dt_var rfl) (wide_div pp pb (by decide) (by decide)))) ?_
  unfold numV
  by_cases h : (c - 10 ^ 18) / powN (k % 24).toNat > 0
  · rw [if_pos h]
    refine ds_stop (ds_if (b := decide (0 < (c - 10 ^ 18) / powN (k % 24).toNat)) (db_test (dt_i0b (dt_var rfl) dt_int)) ?_)
    rw [if_pos (decide_eq_true h)]
    exact ds_ret (dt_ic (dt_ic (dt_int1 (dt_var rfl)) dt_int (show (0 : Int) < 1009 by decide)) (dt_var rfl) hb)
  · rw [if_neg h]
    refine ds_seq (ss1 := [some (.dat (.int c)), some (.dat (.int k)), some (.dat (.int b)), some (.dat (.int (powN (k % 24).toNat))), none, some (.dat (.int ((c - 10 ^ 18) / powN (k % 24).toNat))), none]) (m1 := []) (ds_if (b := decide (0 < (c - 10 ^ 18) / powN (k % 24).toNat)) (db_test (dt_i0b (dt_var rfl) dt_int)) ?_) ?_
    · rw [if_neg (by simpa using h)]
      exact ds_next
    · refine ds_seq (ds_set (dt_ic (dt_int1 (dt_var rfl)) dt_int (show (0 : Int) < 1000003 by decide))) ?_
      refine ds_ret (dt_ic (dt_call (da_cons (dt_ic (dt_i0 (dt_var rfl) (dt_ic dt_int (dt_var rfl) (.inl ⟨by decide, by decide⟩))) (dt_i0 (dt_i0 (dt_var rfl) (dt_ic dt_int (dt_var rfl) (.inl ⟨by decide, by decide⟩))) dt_int) (.inl ⟨?_, ?_⟩)) (da_cons (dt_i0 (dt_ic (dt_int1 (dt_var rfl)) dt_int (show (0 : Int) < 9 by decide)) dt_int) (da_cons dt_int da_nil))) ⟨_, _, _, rfl, by decide, rfl⟩) (dt_var rfl) hb)
      · show -(2 ^ 64) < c % 1000003 + 977 * k
        omega
      · show c % 1000003 + 977 * k < 2 ^ 64
        omega
/-- the drawn numbers' list: the script, where one began, how many were drawn -/
def drM (ns : List Int) (y n : Int) : Mc := .lst [.lst (ns.map .int), .int y, .int n]
def R_next (m : Mc) (ds : List D) (d : D) (m' : Mc) : Prop := ∃ ns y n b, m = drM ns y n ∧ ds = [.int b] ∧ 0 < b ∧ 0 ≤ y ∧ 0 ≤ n ∧ d = .int (nxt ns y (n + 1) b) ∧ m' = drM ns y (n + 1)
theorem ok__law_next (T : Txt K mg) : FnOk P w K mg base CX0 3 T.a__law_next T.fd__law_next ["_law_draw_here", "_law_bound"] (spO K 2 R_next) := by
  refine fnO T.F__law_next sc__law_next rfl (fun cdv A outer s H E hr => ?_)
  refine ⟨_, (pss_cons (ps_asg (pe_op op_add (pe_ix (ixL K) (pv 0) pe_int (fun _ _ => rfl)) pe_int) (pg_sub (pv 0) pe_int set_list))
  (pss_cons (ps_set (i := 2) sc__law_next.nd rfl (.inl rfl) (pe_op op_fdivW (pe_ix (ixL K) (pv 0) pe_int (fun _ _ => rfl)) pe_int))
  (pss_cons (ps_set (i := 3) sc__law_next.nd rfl (.inl rfl) (pe_op op_add (pe_call (ok__law_cell_at T) (hr.mono (by decide)) (by rfl) T.g__law_cell_at T.F__law_cell_at.kp T.b__law_cell_at .nil pass0 (pa_cons (pe_ix (ixL K) (pv 0) pe_int (fun _ _ => rfl)) (pa_cons (pe_op op_add (pe_ix (ixL K) (pv 0) pe_int (fun _ _ => rfl)) (pv 2)) pa_nil))) (pe_op op_mul pe_int (pv 2))))
  (pss_one (ps_ret (pe_call (ok__law_number T) (hr.mono (by decide)) (by rfl) T.g__law_number T.F__law_number.kp T.b__law_number .nil pass0 (pa_cons (pv 3) (pa_cons (pe_op op_add (pe_op op_mod (pe_callTy call_int1 (by rfl) T.n_int (by decide +kernel) (pa_cons (pe_ix (ixL K) (pv 0) pe_int (fun _ _ => rfl)) pa_nil)) pe_int) pe_int) (pa_cons (pv 1) pa_nil))))))))), ?_⟩
  rintro m ds d m' ⟨ns, y, n, b, rfl, rfl, hb, hy, hn, rfl, rfl⟩ -
  have h12 : 0 ≤ (n + 1) / 12 := Int.ediv_nonneg (by omega) (by omega)
  have m0 : 0 ≤ (n + 1) % 12 := Int.emod_nonneg _ (by omega)
  have m1 : (n + 1) % 12 < 12 := Int.emod_lt_of_pos _ (by omega)
  refine .rt ?_
  refine ds_seq (ds_setitem (n := 0) (ds := [.lst (ns.map .int), .int y, .int n]) (m3 := [drM ns y n]) (dt_i0 (dt_ixO (dt_var rfl) dt_int rfl rfl) dt_int) (dt_var rfl) dt_int rfl rfl) ?_
  have w12 : CDivW (n + 1) 12 := wide_div (by decide) (show Int.natAbs 12 < 2 ^ 4 by decide) (by decide) (by decide)
  show DS K _ _ [drM ns y (n + 1)] _
  refine ds_seq (ds_set (dt_ic (dt_ixO (n := 0) (dt_var rfl) dt_int rfl rfl) dt_int w12)) ?_
  refine ds_seq (ds_set (dt_i0 (dt_call (da_cons (dt_ixO (n := 0) (dt_var rfl) dt_int rfl rfl) (da_cons (dt_i0 (dt_ixO (n := 0) (dt_var rfl) dt_int rfl rfl) (dt_var rfl)) da_nil)) ⟨ns, y + (n + 1) / 12, rfl, by omega, rfl⟩) (dt_ic dt_int (dt_var rfl) (.inl ⟨by decide, by decide⟩)))) ?_
  exact ds_ret (dt_call (da_cons (dt_var rfl) (da_cons (dt_i0 (dt_ic (dt_int1 (dt_ixO (n := 0) (dt_var rfl) dt_int rfl rfl)) dt_int (show (0 : Int) < 12 by decide)) dt_int) (da_cons (dt_var rfl) da_nil))) ⟨_, _, b, rfl, hb, by omega, by omega, rfl⟩)
def R_pick (m : Mc) (ds : List D) (d : D) (m' : Mc) : Prop := ∃ ns y n ts, m = drM ns y n ∧ ds = [.lst ts] ∧ ts ≠ [] ∧ 0 ≤ y ∧ 0 ≤ n ∧ d = nthD ts (nxt ns y (n + 1) ts.length).toNat ∧ m' = drM ns y (n + 1)
theorem ok__law_pick (T : Txt K mg) : FnOk P w K mg base CX0 4 T.a__law_pick T.fd__law_pick ["_law_draw_here", "_law_things"] (spO K 2 R_pick) := by
  refine fnO T.F__law_pick sc__law_pick rfl (fun cdv A outer s H E hr => ?_)
  refine ⟨_, (pss_one (ps_ret (pe_ix (ixL K) (pv 1) (pe_call (ok__law_next T) (hr.mono (by decide)) (by rfl) T.g__law_next T.F__law_next.kp T.b__law_next .nil pass0 (pa_cons (pv 0) (pa_cons (pe_callB (callLen K) (by rfl) T.n_len PySem.boot_len (pa_cons (pv 1) pa_nil)) pa_nil))) (fun _ _ => rfl)))), ?_⟩
  rintro m ds d m' ⟨ns, y, n, ts, rfl, rfl, ht, hy, hn, rfl, rfl⟩ -
  have hl : 0 < ts.length := List.length_pos_iff.mpr ht
  have hl' : (0 : Int) < ts.length := by omega
  obtain ⟨b0, b1⟩ := nxt_bd (ns := ns) (y := y) (n := n + 1) hl'
  refine .rt (ds_ret (dt_ixL (m1 := [drM ns y n]) (dt_var rfl) (dt_callO (p := 0) (m := drM ns y n) (dao_cons (dt_var rfl) (da_cons (dt_lenL (dt_var rfl)) da_nil)) rfl (fun z => by cases z) ⟨ns, y, n, _, rfl, rfl, hl', hy, hn, rfl, rfl⟩) ?_))
  have hk : (nxt ns y (n + 1) ts.length).toNat < ts.length := by omega
  have e : nxt ns y (n + 1) ts.length = (((nxt ns y (n + 1) ts.length).toNat : Nat) : Int) := by omega
  rw [e]
  exact atI_nat (nthD_get hk)
end
end K2
end
section
set_option Elab.async false
set_option linter.all false
set_option maxRecDepth 100000
set_option maxHeartbeats 4000000
namespace K2
open PySem PySem.Spec PyProof.Rows L2 DL
/-! ### roads in order, each once -/
def Road.code (r : Road) : Int := TS.code 64 r.row
def Road.Bd (r : Road) : Prop := TS.Bd 64 r.row
theorem code_eq (r : Road) : r.code = r.a * 262144 + r.b * 4096 + r.h * 64 + r.m := by
  show r.a * 64 ^ 3 + (r.b * 64 ^ 2 + (r.h * 64 ^ 1 + (r.m * 64 ^ 0 + 0))) = _
  have h3 : (64 : Int) ^ 3 = 262144 := by decide
  have h2 : (64 : Int) ^ 2 = 4096 := by decide
  have h1 : (64 : Int) ^ 1 = 64 := by decide
  have h0 : (64 : Int) ^ 0 = 1 := by decide
  rw [h3, h2, h1, h0]
  omega
theorem bd_all {r : Road} (h : r.Bd) : (0 ≤ r.a ∧ r.a < 64) ∧ (0 ≤ r.b ∧ r.b < 64) ∧ (0 ≤ r.h ∧ r.h < 64) ∧ (0 ≤ r.m ∧ r.m < 64) :=
  ⟨h r.a (by simp [Road.row]), h r.b (by simp [Road.row]), h r.h (by simp [Road.row]), h r.m (by simp [Road.row])⟩
theorem bd_of {r : Road} (h : (0 ≤ r.a ∧ r.a < 64) ∧ (0 ≤ r.b ∧ r.b < 64) ∧ (0 ≤ r.h ∧ r.h < 64) ∧ (0 ≤ r.m ∧ r.m < 64)) : r.Bd := fun m hm => by
  obtain ⟨h1, h2, h3, h4⟩ := h
  simp only [Road.row, List.mem_cons, List.not_mem_nil, or_false] at hm
  rcases hm with rfl | rfl | rfl | rfl
  · exact h1
  · exact h2
  · exact h3
  · exact h4
theorem code_inj {r s : Road} (hr : r.Bd) (hs : s.Bd) (e : r.code = s.code) : r = s := by
  obtain ⟨⟨a1, a2⟩, ⟨b1, b2⟩, ⟨c1, c2⟩, ⟨d1, d2⟩⟩ := bd_all hr
  obtain ⟨⟨a1', a2'⟩, ⟨b1', b2'⟩, ⟨c1', c2'⟩, ⟨d1', d2'⟩⟩ := bd_all hs
  rw [code_eq, code_eq] at e
  cases r
  cases s
  simp only [Road.mk.injEq] at *
  omega
theorem code_lex {r s : Road} (hr : r.Bd) (hs : s.Bd) (e : r.code < s.code) : HT.lexLt r.row s.row = true := by
  obtain ⟨⟨a1, a2⟩, ⟨b1, b2⟩, ⟨c1, c2⟩, ⟨d1, d2⟩⟩ := bd_all hr
  obtain ⟨⟨a1', a2'⟩, ⟨b1', b2'⟩, ⟨c1', c2'⟩, ⟨d1', d2'⟩⟩ := bd_all hs
  rw [code_eq, code_eq] at e
  simp only [Road.row, HT.lexLt]
  split
  · split
    · split
      · split
        · omega
        · exact decide_eq_true (by omega)
      · exact decide_eq_true (by omega)
    · exact decide_eq_true (by omega)
  · exact decide_eq_true (by omega)
def insR (x : Road) : List Road → List Road
  | [] => [x]
  | y :: l => if x.code < y.code then x :: y :: l else if x.code = y.code then y :: l else y :: insR x l
def sortRoads : List Road → List Road
  | [] => []
  | x :: l => insR x (sortRoads l)
theorem insR_mem {x : Road} (hx : x.Bd) : ∀ {l : List Road}, (∀ y ∈ l, y.Bd) → ∀ z, z ∈ insR x l ↔ z = x ∨ z ∈ l
  | [], _, z => by simp [insR]
  | y :: l, h, z => by
    unfold insR
    split
    · simp
    · split
      · rename_i e
        have exy : x = y := code_inj hx (h y List.mem_cons_self) e
        subst exy
        simp
      · have ih := insR_mem hx (l := l) (fun w hw => h w (List.mem_cons_of_mem _ hw)) z
        simp only [List.mem_cons, ih]
        constructor
        · rintro (h | h | h)
          · exact .inr (.inl h)
          · exact .inl h
          · exact .inr (.inr h)
        · rintro (h | h | h)
          · exact .inr (.inl h)
          · exact .inl h
          · exact .inr (.inr h)
theorem insR_ord {x : Road} (hx : x.Bd) : ∀ {l : List Road}, (∀ y ∈ l, y.Bd) → l.Pairwise (fun a b => a.code < b.code) → (insR x l).Pairwise (fun a b => a.code < b.code)
  | [], _, _ => List.Pairwise.cons (fun _ h => by cases h) .nil
  | y :: l, h, p => by
    have p' := List.pairwise_cons.mp p
    unfold insR
    split
    · rename_i e
      refine List.Pairwise.cons (fun z hz => ?_) p
      rcases List.mem_cons.mp hz with rfl | hz
      · exact e
      · have := p'.1 z hz
        omega
    · split
      · exact p
      · rename_i e1 e2
        refine List.Pairwise.cons (fun z hz => ?_) (insR_ord hx (fun w hw => h w (List.mem_cons_of_mem _ hw)) p'.2)
        rcases (insR_mem hx (fun w hw => h w (List.mem_cons_of_mem _ hw)) z).mp hz with rfl | hz
        · omega
        · exact p'.1 z hz
theorem sort_mem : ∀ {l : List Road}, (∀ y ∈ l, y.Bd) → ∀ z, z ∈ sortRoads l ↔ z ∈ l
  | [], _, z => by simp [sortRoads]
  | x :: l, h, z => by
    have hl : ∀ y ∈ l, y.Bd := fun y hy => h y (List.mem_cons_of_mem _ hy)
    unfold sortRoads
    rw [insR_mem (h x List.mem_cons_self) (fun y hy => hl y ((sort_mem hl y).mp hy)), sort_mem hl, List.mem_cons]
theorem sort_ord : ∀ {l : List Road}, (∀ y ∈ l, y.Bd) → (sortRoads l).Pairwise (fun a b => a.code < b.code)
  | [], _ => .nil
  | x :: l, h => by
    have hl : ∀ y ∈ l, y.Bd := fun y hy => h y (List.mem_cons_of_mem _ hy)
    exact insR_ord (h x List.mem_cons_self) (fun y hy => hl y ((sort_mem hl y).mp hy)) (sort_ord hl)
theorem strict_unique {α : Type} (f : α → Int) : ∀ (l l' : List α), l.Pairwise (fun a b => f a < f b) → l'.Pairwise (fun a b => f a < f b) → (∀ x, x ∈ l ↔ x ∈ l') → l = l'
  | [], [], _, _, _ => rfl
  | [], y :: l', _, _, h => by have := (h y).mpr List.mem_cons_self; cases this
  | x :: l, [], _, _, h => by have := (h x).mp List.mem_cons_self; cases this
  | x :: l, y :: l', p, p', h => by
    obtain ⟨p1, p2⟩ := List.pairwise_cons.mp p
    obtain ⟨q1, q2⟩ := List.pairwise_cons.mp p'
    have exy : x = y := by
      rcases List.mem_cons.mp ((h x).mp List.mem_cons_self) with e | e
      · exact e
      · rcases List.mem_cons.mp ((h y).mpr List.mem_cons_self) with e' | e'
        · exact e'.symm
        · have a := q1 x e
          have b := p1 y e'
          omega
    subst exy
    rw [strict_unique f l l' p2 q2 fun z => ⟨fun hz => ?_, fun hz => ?_⟩]
    · rcases List.mem_cons.mp ((h z).mp (List.mem_cons_of_mem _ hz)) with e | e
      · subst e
        have := p1 z hz
        omega
      · exact e
    · rcases List.mem_cons.mp ((h z).mpr (List.mem_cons_of_mem _ hz)) with e | e
      · subst e
        have := q1 z hz
        omega
      · exact e
theorem row_inj {r s : Road} (e : r.row = s.row) : r = s := by
  cases r
  cases s
  simp only [Road.row, List.cons.injEq, and_true] at e
  obtain ⟨rfl, rfl, rfl, rfl⟩ := e
  rfl
/-- what sorted(set(..)) gives is sortRoads -/
theorem sort_uniq {l : List Road} (h : ∀ y ∈ l, y.Bd) (out : List (List Int)) (S : SortSet 64 (l.map Road.row) out) : out = (sortRoads l).map Road.row := by
  have inj : ∀ a ∈ out, ∀ b ∈ out, TS.code 64 a = TS.code 64 b → a = b := fun a ha b hb e => by
    obtain ⟨r, hr, rfl⟩ := List.mem_map.mp ((S.mem a).mp ha)
    obtain ⟨s, hs, rfl⟩ := List.mem_map.mp ((S.mem b).mp hb)
    rw [code_inj (h r hr) (h s hs) e]
  refine strict_unique (TS.code 64) _ _ ?_ (by rw [List.pairwise_map]; exact sort_ord h) fun x => ?_
  · have both := List.Pairwise.and S.ord S.nd
    refine List.Pairwise.imp_of_mem (fun {a b} ha hb q => ?_) both
    have ne : TS.code 64 a ≠ TS.code 64 b := fun e => q.2 (inj a ha b hb e)
    have le := q.1
    omega
  · rw [S.mem]
    constructor
    · intro hx
      obtain ⟨r, hr, rfl⟩ := List.mem_map.mp hx
      exact List.mem_map_of_mem ((sort_mem h r).mpr hr)
    · intro hx
      obtain ⟨r, hr, rfl⟩ := List.mem_map.mp hx
      exact List.mem_map_of_mem ((sort_mem h r).mp hr)
end K2
end
section
set_option Elab.async false
set_option linter.all false
set_option maxRecDepth 100000
set_option maxHeartbeats 4000000
namespace K2
open PySem PySem.Spec PyProof.Rows L2 DL
/-! ### the drawn map, drawn by drawn -/
/-- the number drawn when n were drawn before -/
def dv (ns : List Int) (y n b : Int) : Int := nxt ns y (n + 1) b
theorem dv_bd {ns : List Int} {y n b : Int} (h : 0 < b) : 0 ≤ dv ns y n b ∧ dv ns y n b < b := nxt_bd h
def melts : List Int := [0, 1, 1, 1, 2, 3]
def mkRoad (ns : List Int) (y many n : Int) : Road :=
  ⟨dv ns y n (many - 1), dv ns y n (many - 1) + 1 + dv ns y (n + 1) (many - 1 - dv ns y n (many - 1)), 1 + dv ns y (n + 1 + 1) 3, melts.getD (dv ns y (n + 1 + 1 + 1) 6).toNat 0⟩
def cnt4 (n : Int) : Nat → Int
  | 0 => n
  | i + 1 => cnt4 n i + 1 + 1 + 1 + 1
def cnt1 (n : Int) : Nat → Int
  | 0 => n
  | i + 1 => cnt1 n i + 1
def cnt2 (n : Int) : Nat → Int
  | 0 => n
  | i + 1 => cnt2 n i + 1 + 1
def roadsA (ns : List Int) (y many n : Int) : Nat → List Road
  | 0 => []
  | i + 1 => roadsA ns y many n i ++ [mkRoad ns y many (cnt4 n i)]
def mkLine (ns : List Int) (y n : Int) (i : Nat) : Road := ⟨0 + (i : Nat), 0 + (i : Nat) + 1, 1 + dv ns y n 2, 1⟩
def roadsB (ns : List Int) (y n : Int) (l : List Road) : Nat → List Road
  | 0 => l
  | i + 1 => roadsB ns y n l i ++ [mkLine ns y (cnt1 n i) i]
def mkPrice (ns : List Int) (y n : Int) : Option Int := [none, some (1 + dv ns y n 9), some 2, some 3].getD (dv ns y (n + 1) 4).toNat none
def pricesOf (ns : List Int) (y n : Int) : Nat → List (Option Int)
  | 0 => []
  | i + 1 => pricesOf ns y n i ++ [mkPrice ns y (cnt2 n i)]
def rowsD (l : List Road) : List D := l.map roadD
/-- the parts of the drawn map -/
def mapMany (ns : List Int) (y n places : Int) : Int := 2 + dv ns y n (places - 1)
def mapTurns (ns : List Int) (y n : Int) : Nat := (1 + dv ns y (n + 1) 5).toNat
def mapN3 (ns : List Int) (y n : Int) : Int := cnt4 (n + 1 + 1) (mapTurns ns y n)
def mapLine (ns : List Int) (y n : Int) : Bool := decide (0 < dv ns y (mapN3 ns y n) 4)
def mapN5 (ns : List Int) (y n places : Int) : Int := if mapLine ns y n = true then cnt1 (mapN3 ns y n + 1) (mapMany ns y n places - 1).toNat else mapN3 ns y n + 1
def mapRaw (ns : List Int) (y n places : Int) : List Road :=
  if mapLine ns y n = true then roadsB ns y (mapN3 ns y n + 1) (roadsA ns y (mapMany ns y n places) (n + 1 + 1) (mapTurns ns y n)) (mapMany ns y n places - 1).toNat else roadsA ns y (mapMany ns y n places) (n + 1 + 1) (mapTurns ns y n)
def mapN6 (ns : List Int) (y n places : Int) : Int := cnt2 (mapN5 ns y n places) (mapMany ns y n places).toNat
def bears : List Int := [0, 0, 1, 2]
def mapOf (ns : List Int) (y n places : Int) : MapD :=
  { places := mapMany ns y n places, roads := (sortRoads (mapRaw ns y n places)).take 7, prices := pricesOf ns y (mapN5 ns y n places) (mapMany ns y n places).toNat,
    room := 1 + dv ns y (mapN6 ns y n places) 5, bear := bears.getD (dv ns y (mapN6 ns y n places + 1) 4).toNat 0 }
def mapEnd (ns : List Int) (y n places : Int) : Int := mapN6 ns y n places + 1 + 1
/-! bounds -/
theorem melts_bd (i : Nat) (h : i < 6) : 0 ≤ melts.getD i 0 ∧ melts.getD i 0 ≤ 3 := by
  have : ∀ i : Nat, i < 6 → 0 ≤ melts.getD i 0 ∧ melts.getD i 0 ≤ 3 := by decide
  exact this i h
theorem bears_bd (i : Nat) (h : i < 4) : 0 ≤ bears.getD i 0 ∧ bears.getD i 0 ≤ 2 := by
  have : ∀ i : Nat, i < 4 → 0 ≤ bears.getD i 0 ∧ bears.getD i 0 ≤ 2 := by decide
  exact this i h
theorem mkRoad_ok {ns : List Int} {y many n : Int} (h : 2 ≤ many) : (mkRoad ns y many n).Ok many := by
  obtain ⟨a0, a1⟩ := dv_bd (ns := ns) (y := y) (n := n) (show 0 < many - 1 by omega)
  obtain ⟨b0, b1⟩ := dv_bd (ns := ns) (y := y) (n := n + 1) (show 0 < many - 1 - dv ns y n (many - 1) by omega)
  obtain ⟨c0, c1⟩ := dv_bd (ns := ns) (y := y) (n := n + 1 + 1) (show (0 : Int) < 3 by decide)
  obtain ⟨d0, d1⟩ := dv_bd (ns := ns) (y := y) (n := n + 1 + 1 + 1) (show (0 : Int) < 6 by decide)
  obtain ⟨e0, e1⟩ := melts_bd (dv ns y (n + 1 + 1 + 1) 6).toNat (by omega)
  exact ⟨a0, by show dv ns y n (many - 1) < dv ns y n (many - 1) + 1 + _; omega, by show dv ns y n (many - 1) + 1 + _ ≤ many - 1; omega, by show 1 ≤ 1 + _; omega, by show 1 + _ ≤ 4; omega, e0, e1⟩
theorem mkLine_ok {ns : List Int} {y many n : Int} {i : Nat} (h : (i : Int) < many - 1) : (mkLine ns y n i).Ok many := by
  obtain ⟨c0, c1⟩ := dv_bd (ns := ns) (y := y) (n := n) (show (0 : Int) < 2 by decide)
  exact ⟨by show (0 : Int) ≤ 0 + _; omega, by show (0 : Int) + _ < 0 + _ + 1; omega, by show (0 : Int) + _ + 1 ≤ many - 1; omega, by show 1 ≤ 1 + _; omega, by show 1 + _ ≤ 4; omega, by show (0 : Int) ≤ 1; decide, by show (1 : Int) ≤ 3; decide⟩
theorem roadsA_ok {ns : List Int} {y many n : Int} (h : 2 ≤ many) : ∀ k, ∀ r ∈ roadsA ns y many n k, r.Ok many
  | 0, r, hr => by cases hr
  | k + 1, r, hr => by
    rcases List.mem_append.mp hr with hr | hr
    · exact roadsA_ok h k r hr
    · rw [List.mem_singleton.mp hr]
      exact mkRoad_ok h
theorem roadsA_len {ns : List Int} {y many n : Int} : ∀ k, (roadsA ns y many n k).length = k
  | 0 => rfl
  | k + 1 => by
    show (roadsA ns y many n k ++ [_]).length = _
    rw [List.length_append, roadsA_len k]
    rfl
theorem roadsB_ok {ns : List Int} {y many n : Int} {l : List Road} (hl : ∀ r ∈ l, r.Ok many) : ∀ k : Nat, (k : Int) ≤ many - 1 → ∀ r ∈ roadsB ns y n l k, r.Ok many
  | 0, _, r, hr => hl r hr
  | k + 1, h, r, hr => by
    rcases List.mem_append.mp hr with hr | hr
    · exact roadsB_ok hl k (by omega) r hr
    · rw [List.mem_singleton.mp hr]
      exact mkLine_ok (by omega)
theorem roadsB_len {ns : List Int} {y n : Int} {l : List Road} : ∀ k, (roadsB ns y n l k).length = l.length + k
  | 0 => rfl
  | k + 1 => by
    show (roadsB ns y n l k ++ [_]).length = _
    rw [List.length_append, roadsB_len k]
    rfl
theorem prices_len {ns : List Int} {y n : Int} : ∀ k, (pricesOf ns y n k).length = k
  | 0 => rfl
  | k + 1 => by
    show (pricesOf ns y n k ++ [_]).length = _
    rw [List.length_append, prices_len k]
    rfl
theorem mkPrice_ok {ns : List Int} {y n x : Int} (h : mkPrice ns y n = some x) : 1 ≤ x ∧ x ≤ 9 := by
  obtain ⟨c0, c1⟩ := dv_bd (ns := ns) (y := y) (n := n) (show (0 : Int) < 9 by decide)
  obtain ⟨d0, d1⟩ := dv_bd (ns := ns) (y := y) (n := n + 1) (show (0 : Int) < 4 by decide)
  unfold mkPrice at h
  generalize hq : (dv ns y (n + 1) 4).toNat = q at h
  have hq4 : q < 4 := by omega
  match q, hq4 with
  | 0, _ => cases h
  | 1, _ =>
    have e : 1 + dv ns y n 9 = x := Option.some.inj h
    omega
  | 2, _ =>
    have e : 2 = x := Option.some.inj h
    omega
  | 3, _ =>
    have e : 3 = x := Option.some.inj h
    omega
theorem prices_ok {ns : List Int} {y n : Int} : ∀ k, ∀ p ∈ pricesOf ns y n k, ∀ x, p = some x → 1 ≤ x ∧ x ≤ 9
  | 0, p, hp, _, _ => by cases hp
  | k + 1, p, hp, x, e => by
    rcases List.mem_append.mp hp with hp | hp
    · exact prices_ok k p hp x e
    · rw [List.mem_singleton.mp hp] at e
      exact mkPrice_ok e
theorem Road.Ok.bd {n : Int} {r : Road} (h : r.Ok n) (hn : n ≤ 5) : r.Bd := by
  have a0 := h.a0
  have ab := h.ab
  have bn := h.bn
  have h1 := h.h1
  have h4 := h.h4
  have m0 := h.m0
  have m3 := h.m3
  exact bd_of ⟨⟨a0, by omega⟩, ⟨by omega, by omega⟩, ⟨by omega, by omega⟩, ⟨m0, by omega⟩⟩
section
variable {ns : List Int} {y n places : Int}
theorem many_bd (h2 : 2 ≤ places) : 2 ≤ mapMany ns y n places ∧ mapMany ns y n places ≤ places := by
  obtain ⟨c0, c1⟩ := dv_bd (ns := ns) (y := y) (n := n) (show 0 < places - 1 by omega)
  unfold mapMany
  omega
theorem turns_bd : 1 ≤ mapTurns ns y n ∧ mapTurns ns y n ≤ 5 := by
  obtain ⟨c0, c1⟩ := dv_bd (ns := ns) (y := y) (n := n + 1) (show (0 : Int) < 5 by decide)
  unfold mapTurns
  omega
theorem raw_ok (h2 : 2 ≤ places) : ∀ r ∈ mapRaw ns y n places, r.Ok (mapMany ns y n places) := by
  obtain ⟨m2, _⟩ := many_bd (ns := ns) (y := y) (n := n) h2
  have hA := roadsA_ok (ns := ns) (y := y) (n := n + 1 + 1) m2 (mapTurns ns y n)
  unfold mapRaw
  split
  · exact roadsB_ok hA _ (by omega)
  · exact hA
theorem raw_len (h2 : 2 ≤ places) (h5 : places ≤ 5) : 1 ≤ (mapRaw ns y n places).length ∧ (mapRaw ns y n places).length ≤ 9 := by
  obtain ⟨m2, m5⟩ := many_bd (ns := ns) (y := y) (n := n) h2
  obtain ⟨t1, t5⟩ := turns_bd (ns := ns) (y := y) (n := n)
  unfold mapRaw
  split
  · rw [roadsB_len, roadsA_len]
    omega
  · rw [roadsA_len]
    omega
theorem mapOf_ok (h2 : 2 ≤ places) (h5 : places ≤ 5) : (mapOf ns y n places).Ok := by
  obtain ⟨m2, m5⟩ := many_bd (ns := ns) (y := y) (n := n) h2
  obtain ⟨r0, r1⟩ := dv_bd (ns := ns) (y := y) (n := mapN6 ns y n places) (show (0 : Int) < 5 by decide)
  obtain ⟨b0, b1⟩ := dv_bd (ns := ns) (y := y) (n := mapN6 ns y n places + 1) (show (0 : Int) < 4 by decide)
  obtain ⟨e0, e1⟩ := bears_bd (dv ns y (mapN6 ns y n places + 1) 4).toNat (by omega)
  obtain ⟨l1, _⟩ := raw_len (ns := ns) (y := y) (n := n) h2 h5
  have hraw := raw_ok (ns := ns) (y := y) (n := n) h2
  have hbd : ∀ r ∈ mapRaw ns y n places, r.Bd := fun r hr => (hraw r hr).bd (by omega)
  have hmem : ∀ r ∈ (sortRoads (mapRaw ns y n places)).take 7, r ∈ mapRaw ns y n places := fun r hr => (sort_mem hbd r).mp (List.mem_of_mem_take hr)
  have hne : 1 ≤ (sortRoads (mapRaw ns y n places)).length := by
    obtain ⟨x, hx⟩ : ∃ x, x ∈ mapRaw ns y n places := by
      cases q : mapRaw ns y n places with
      | nil => rw [q] at l1; simp at l1
      | cons x l => exact ⟨x, List.mem_cons_self⟩
    exact List.length_pos_of_mem ((sort_mem hbd x).mpr hx)
  have hord : ((sortRoads (mapRaw ns y n places)).take 7).Pairwise (fun a b => a.code < b.code) := (sort_ord hbd).sublist (List.take_sublist _ _)
  refine ⟨m2, by show mapMany ns y n places ≤ 5; omega, by show 1 ≤ ((sortRoads _).take 7).length; rw [List.length_take]; omega, by show ((sortRoads _).take 7).length ≤ 7; rw [List.length_take]; omega, fun r hr => hraw r (hmem r hr), fun i hi => ?_, ?_, prices_ok _, by show 1 ≤ 1 + _; omega, by show 1 + _ ≤ 6; omega, e0, e1⟩
  · have hi' : i + 1 < ((sortRoads (mapRaw ns y n places)).take 7).length := hi
    have g1 : (mapOf ns y n places).road i = ((sortRoads (mapRaw ns y n places)).take 7)[i] := by
      show List.getD _ _ _ = _
      rw [List.getD_eq_getElem?_getD]
      show (((sortRoads (mapRaw ns y n places)).take 7)[i]?).getD _ = _
      rw [List.getElem?_eq_getElem (by omega)]
      rfl
    have g2 : (mapOf ns y n places).road (i + 1) = ((sortRoads (mapRaw ns y n places)).take 7)[i + 1] := by
      show List.getD _ _ _ = _
      rw [List.getD_eq_getElem?_getD]
      show (((sortRoads (mapRaw ns y n places)).take 7)[i + 1]?).getD _ = _
      rw [List.getElem?_eq_getElem hi']
      rfl
    rw [g1, g2]
    exact code_lex (hbd _ (hmem _ (List.getElem_mem _))) (hbd _ (hmem _ (List.getElem_mem _))) (List.pairwise_iff_getElem.mp hord i (i + 1) (by omega) hi' (by omega))
  · show ((pricesOf ns y (mapN5 ns y n places) (mapMany ns y n places).toNat).length : Int) = mapMany ns y n places
    rw [prices_len]
    omega
theorem cnt4_nn {n : Int} (h : 0 ≤ n) : ∀ k, 0 ≤ cnt4 n k
  | 0 => h
  | k + 1 => by
    have := cnt4_nn h k
    show 0 ≤ cnt4 n k + 1 + 1 + 1 + 1
    omega
theorem cnt1_nn {n : Int} (h : 0 ≤ n) : ∀ k, 0 ≤ cnt1 n k
  | 0 => h
  | k + 1 => by
    have := cnt1_nn h k
    show 0 ≤ cnt1 n k + 1
    omega
theorem cnt2_nn {n : Int} (h : 0 ≤ n) : ∀ k, 0 ≤ cnt2 n k
  | 0 => h
  | k + 1 => by
    have := cnt2_nn h k
    show 0 ≤ cnt2 n k + 1 + 1
    omega
theorem n3_nn (h : 0 ≤ n) : 0 ≤ mapN3 ns y n := cnt4_nn (by omega) _
theorem n5_nn (h : 0 ≤ n) : 0 ≤ mapN5 ns y n places := by
  have := n3_nn (ns := ns) (y := y) h
  unfold mapN5
  split
  · exact cnt1_nn (by omega) _
  · omega
theorem n6_nn (h : 0 ≤ n) : 0 ≤ mapN6 ns y n places := cnt2_nn (n5_nn h) _
end
end K2
end
section
set_option Elab.async false
set_option linter.all false
set_option maxRecDepth 100000
set_option maxHeartbeats 4000000
namespace K2
open PySem PySem.Spec PyProof.Rows L2 DL
section
variable {K : PySem.W.Frag} {ss ss1 ss2 : Sl} {mem m1 m2 m3 m4 : List Mc} {t u : TS} {out : Out} {te : TE} {x : Vl}
/-- one drawn number -/
theorem dt_next {ns : List Int} {y n b : Int} {o : Nat} {E : XK} {tb to : TE} (ho : DT K to ss mem (.own o) mem) (hb : DT K tb ss mem (.dat (.int b)) m1) (hm : m1[o]? = some (drM ns y n)) (h0 : 0 < b) (hy : 0 ≤ y) (hn : 0 ≤ n) :
    DT K (tCall (spO K 2 R_next) [] E (tCons to (tCons tb tNil))) ss mem (.dat (.int (dv ns y n b))) (m1.set o (drM ns y (n + 1))) :=
  dt_callO (dao_cons ho (da_cons hb da_nil)) hm (fun z => by cases z) ⟨ns, y, n, b, rfl, rfl, h0, hy, hn, rfl, rfl⟩
/-- one thing picked -/
theorem dt_pick {ns : List Int} {y n : Int} {o : Nat} {E : XK} {tb to : TE} {ts : List D} (ho : DT K to ss mem (.own o) mem) (hb : DT K tb ss mem (.dat (.lst ts)) m1) (hm : m1[o]? = some (drM ns y n)) (h0 : ts ≠ []) (hy : 0 ≤ y) (hn : 0 ≤ n) :
    DT K (tCall (spO K 2 R_pick) [] E (tCons to (tCons tb tNil))) ss mem (.dat (nthD ts (dv ns y n ts.length).toNat)) (m1.set o (drM ns y (n + 1))) :=
  dt_callO (dao_cons ho (da_cons hb da_nil)) hm (fun z => by cases z) ⟨ns, y, n, ts, rfl, rfl, h0, hy, hn, rfl, rfl⟩
end
section
variable {P : Program} {w : World} {K : PySem.W.Frag} {mg : Str → Option Value} {base : Heap} {k : Nat}
def R_map (C : Addr) (m : Mc) (ds : List D) (d : D) (m' : Mc) : Prop := ∃ ns y n places, m = drM ns y n ∧ ds = [.int places] ∧ 2 ≤ places ∧ places ≤ 5 ∧ 0 ≤ y ∧ 0 ≤ n ∧ d = mapD C (mapOf ns y n places) ∧ m' = drM ns y (mapEnd ns y n places)
theorem ok__law_map (T : Txt K mg) : FnOk P w K mg base CX0 7 T.a__law_map T.fd__law_map ["_law_draw_here", "_law_places"] (spO K 2 (R_map T.C_Map)) := by
  refine fnO T.F__law_map sc__law_map rfl (fun cdv A outer s H E hr => ?_)
  refine ⟨_, (pss_cons (ps_set (i := 2) sc__law_map.nd rfl (.inl rfl) (pe_op op_add pe_int (pe_call (ok__law_next T) (hr.mono (by decide)) (by rfl) T.g__law_next T.F__law_next.kp T.b__law_next .nil pass0 (pa_cons (pv 0) (pa_cons (pe_op op_sub (pv 1) pe_int) pa_nil)))))
  (pss_cons (ps_set (i := 3) sc__law_map.nd rfl (.inl rfl) (pe_lst pa_nil))
  (pss_cons (ps_for PassesOwn.never rfl (pi_range1 (by rfl) T.n_range (pa_cons (pe_op op_add pe_int (pe_call (ok__law_next T) (hr.mono (by decide)) (by rfl) T.g__law_next T.F__law_next.kp T.b__law_next .nil pass0 (pa_cons (pv 0) (pa_cons pe_int pa_nil)))) pa_nil)) (pg_name (i := 4) sc__law_map.nd rfl (.inl rfl)) (pss_cons (ps_set (i := 5) sc__law_map.nd rfl (.inl rfl) (pe_call (ok__law_next T) (hr.mono (by decide)) (by rfl) T.g__law_next T.F__law_next.kp T.b__law_next .nil pass0 (pa_cons (pv 0) (pa_cons (pe_op op_sub (pv 2) pe_int) pa_nil))))
  (pss_cons (ps_set (i := 6) sc__law_map.nd rfl (.inl rfl) (pe_op op_add (pe_op op_add (pv 5) pe_int) (pe_call (ok__law_next T) (hr.mono (by decide)) (by rfl) T.g__law_next T.F__law_next.kp T.b__law_next .nil pass0 (pa_cons (pv 0) (pa_cons (pe_op op_sub (pe_op op_sub (pv 2) pe_int) (pv 5)) pa_nil)))))
  (pss_one (ps_expr (pe_bm PySem.F.plainAttrs_list PySem.F.slot_list_append PySem.F.type_list_append mt_append (pv 3) (pa_cons (pe_tup (pa_cons (pv 5) (pa_cons (pv 6) (pa_cons (pe_op op_add pe_int (pe_call (ok__law_next T) (hr.mono (by decide)) (by rfl) T.g__law_next T.F__law_next.kp T.b__law_next .nil pass0 (pa_cons (pv 0) (pa_cons pe_int pa_nil)))) (pa_cons (pe_call (ok__law_pick T) (hr.mono (by decide)) (by rfl) T.g__law_pick T.F__law_pick.kp T.b__law_pick .nil pass0 (pa_cons (pv 0) (pa_cons (pe_lst (pa_cons pe_int (pa_cons pe_int (pa_cons pe_int (pa_cons pe_int (pa_cons pe_int (pa_cons pe_int pa_nil))))))) pa_nil))) pa_nil))))) pa_nil)))))))
  (pss_cons (ps_if (pt_cmpR op_gt (pe_call (ok__law_next T) (hr.mono (by decide)) (by rfl) T.g__law_next T.F__law_next.kp T.b__law_next .nil pass0 (pa_cons (pv 0) (pa_cons pe_int pa_nil))) pe_int (nomark _)) (pss_one (ps_for PassesOwn.never rfl (pi_range1 (by rfl) T.n_range (pa_cons (pe_op op_sub (pv 2) pe_int) pa_nil)) (pg_name (i := 7) sc__law_map.nd rfl (.inl rfl)) (pss_one (ps_expr (pe_bm PySem.F.plainAttrs_list PySem.F.slot_list_append PySem.F.type_list_append mt_append (pv 3) (pa_cons (pe_tup (pa_cons (pv 7) (pa_cons (pe_op op_add (pv 7) pe_int) (pa_cons (pe_op op_add pe_int (pe_call (ok__law_next T) (hr.mono (by decide)) (by rfl) T.g__law_next T.F__law_next.kp T.b__law_next .nil pass0 (pa_cons (pv 0) (pa_cons pe_int pa_nil)))) (pa_cons pe_int pa_nil))))) pa_nil)))))) pss_nil)
  (pss_cons (ps_set (i := 3) sc__law_map.nd rfl (.inl rfl) (pe_slice (slL K) (pe_callB (cr_sortedT rfl) (by rfl) T.n_sorted (by decide +kernel) (pa_cons (pe_callTy (cr_setOfT rfl hr.units) (by rfl) T.n_set (by decide +kernel) (pa_cons (pv 3) pa_nil)) pa_nil)) po_none (po_some pe_int)))
  (pss_cons (ps_set (i := 8) sc__law_map.nd rfl (.inl rfl) (pe_lst pa_nil))
  (pss_cons (ps_for PassesOwn.never rfl (pi_range1 (by rfl) T.n_range (pa_cons (pv 2) pa_nil)) (pg_name (i := 7) sc__law_map.nd rfl (.inl rfl)) (pss_one (ps_expr (pe_bm PySem.F.plainAttrs_list PySem.F.slot_list_append PySem.F.type_list_append mt_append (pv 8) (pa_cons (pe_call (ok__law_pick T) (hr.mono (by decide)) (by rfl) T.g__law_pick T.F__law_pick.kp T.b__law_pick .nil pass0 (pa_cons (pv 0) (pa_cons (pe_lst (pa_cons pe_non (pa_cons (pe_op op_add pe_int (pe_call (ok__law_next T) (hr.mono (by decide)) (by rfl) T.g__law_next T.F__law_next.kp T.b__law_next .nil pass0 (pa_cons (pv 0) (pa_cons pe_int pa_nil)))) (pa_cons pe_int (pa_cons pe_int pa_nil))))) pa_nil))) pa_nil)))))
  (pss_cons (ps_set (i := 9) sc__law_map.nd rfl (.inl rfl) (pe_tup (pa_cons (pe_op op_add pe_int (pe_call (ok__law_next T) (hr.mono (by decide)) (by rfl) T.g__law_next T.F__law_next.kp T.b__law_next .nil pass0 (pa_cons (pv 0) (pa_cons pe_int pa_nil)))) (pa_cons (pe_call (ok__law_pick T) (hr.mono (by decide)) (by rfl) T.g__law_pick T.F__law_pick.kp T.b__law_pick .nil pass0 (pa_cons (pv 0) (pa_cons (pe_lst (pa_cons pe_int (pa_cons pe_int (pa_cons pe_int (pa_cons pe_int pa_nil))))) pa_nil))) pa_nil))))
  (pss_one (ps_ret (pe_make T.mk_Map (ok_Map___init__ T) (hr.mono (by decide)) (by rfl) T.g_Map T.b_Map___init__ .nil pass0 (pa_cons (pv 2) (pa_cons (pe_tupleOf (by rfl) T.n_tuple (pv 3)) (pa_cons (pe_tupleOf (by rfl) T.n_tuple (pv 8)) (pa_cons (pv 9) pa_nil))))))))))))))), ?_⟩
  rintro m ds d m' ⟨ns, y, n, places, rfl, rfl, h2, h5, hy, hn, rfl, rfl⟩ -
  obtain ⟨mm2, mm5⟩ := many_bd (ns := ns) (y := y) (n := n) h2
  obtain ⟨t1, t5⟩ := turns_bd (ns := ns) (y := y) (n := n)
  have hMok := mapOf_ok (ns := ns) (y := y) (n := n) h2 h5
  have hraw := raw_ok (ns := ns) (y := y) (n := n) h2
  obtain ⟨_, rl9⟩ := raw_len (ns := ns) (y := y) (n := n) h2 h5
  have n3 := n3_nn (ns := ns) (y := y) hn
  have n5 := n5_nn (ns := ns) (y := y) (places := places) hn
  have n6 := n6_nn (ns := ns) (y := y) (places := places) hn
  obtain ⟨w0, w1⟩ := dv_bd (ns := ns) (y := y) (n := n + 1) (show (0 : Int) < 5 by decide)
  let many := mapMany ns y n places
  have hmany : many = mapMany ns y n places := rfl
  refine ⟨[.gone, .lst ((mapOf ns y n places).prices.map optD)], .inl ?_⟩
  -- many
  refine ds_seq (ds_set (dt_i0 dt_int (dt_next (n := n) (o := 0) (dt_var rfl) (dt_i0 (dt_var rfl) dt_int) rfl (by omega) hy hn))) ?_
  -- roads = []
  refine ds_seq (ds_set (dt_lstO da_nil)) ?_
  -- the first loop
  let f : Nat → Sl := fun _ => [some (.own 0), some (.dat (.int places)), some (.dat (.int many)), some (.own 1), none, none, none, none, none, none]
  refine ds_seq (ds_forW [4, 5, 6] f (fun i => [drM ns y (cnt4 (n + 1 + 1) i), .lst (rowsD (roadsA ns y many (n + 1 + 1) i))]) rfl
    (di_rng1 (da_cons (dt_i0 dt_int (dt_next (n := n + 1) (o := 0) (dt_var rfl) dt_int rfl (by decide) hy (by omega))) da_nil) (show -(2 ^ 62) ≤ 1 + dv ns y (n + 1) 5 by omega) (show 1 + dv ns y (n + 1) 5 < 2 ^ 62 by omega)) (fun _ => rfl) (fun _ => rfl) fun i hi => ?_) ?_
  · have hc : 0 ≤ cnt4 (n + 1 + 1) i := cnt4_nn (by omega) i
    generalize hcc : cnt4 (n + 1 + 1) i = c at hc
    obtain ⟨a0, a1⟩ := dv_bd (ns := ns) (y := y) (n := c) (show 0 < many - 1 by omega)
    have er : rowsD (roadsA ns y many (n + 1 + 1) (i + 1)) = rowsD (roadsA ns y many (n + 1 + 1) i) ++ [roadD (mkRoad ns y many c)] := by
      rw [← hcc]
      show List.map roadD (_ ++ [_]) = _
      rw [List.map_append]
      rfl
    have hlen : (rowsD (roadsA ns y many (n + 1 + 1) i)).length < 16777216 := by
      show (List.map roadD _).length < _
      rw [List.length_map, roadsA_len]
      have : i < mapTurns ns y n := hi
      omega
    have ec : cnt4 (n + 1 + 1) (i + 1) = c + 1 + 1 + 1 + 1 := by rw [← hcc]; rfl
    refine ⟨[some (.own 0), some (.dat (.int places)), some (.dat (.int many)), some (.own 1), some (.dat (.int (0 + (i : Nat)))), some (.dat (.int (mkRoad ns y many c).a)), some (.dat (.int (mkRoad ns y many c).b)), none, none, none], [], ?_, rfl⟩
    show DS K _ _ [drM ns y c, _] (.nx _ [drM ns y (cnt4 (n + 1 + 1) (i + 1)), .lst (rowsD (roadsA ns y many (n + 1 + 1) (i + 1)))])
    rw [ec, er]
    refine ds_seq (ds_set (dt_next (n := c) (o := 0) (dt_var rfl) (dt_i0 (dt_var rfl) dt_int) rfl (by omega) hy hc)) ?_
    refine ds_seq (ds_set (dt_i0 (dt_i0 (dt_var rfl) dt_int) (dt_next (n := c + 1) (o := 0) (dt_var rfl) (dt_i0 (dt_i0 (dt_var rfl) dt_int) (dt_var rfl)) rfl (by omega) hy (by omega)))) ?_
    refine ds_drop (r := .dat .non) ?_
    refine dt_append (n := 1) (ds := rowsD (roadsA ns y many (n + 1 + 1) i)) (m1 := [drM ns y (c + 1 + 1), .lst (rowsD (roadsA ns y many (n + 1 + 1) i))]) (m2 := [drM ns y (c + 1 + 1 + 1 + 1), .lst (rowsD (roadsA ns y many (n + 1 + 1) i))]) (dt_var rfl) (da_cons ?_ da_nil) rfl rfl hlen
    have hp : DT K _ [some (.own 0), some (.dat (.int places)), some (.dat (.int many)), some (.own 1), some (.dat (.int (0 + (i : Nat)))), some (.dat (.int (mkRoad ns y many c).a)), some (.dat (.int (mkRoad ns y many c).b)), none, none, none] _ (.dat (nthD (melts.map D.int) (dv ns y (c + 1 + 1 + 1) 6).toNat)) _ :=
      dt_pick (n := c + 1 + 1 + 1) (o := 0) (E := E0) (to := tVar 0) (mem := [drM ns y (c + 1 + 1 + 1), .lst (rowsD (roadsA ns y many (n + 1 + 1) i))]) (ts := melts.map D.int) (dt_var rfl) (dt_lst (da_cons dt_int (da_cons dt_int (da_cons dt_int (da_cons dt_int (da_cons dt_int (da_cons dt_int da_nil))))))) rfl (fun z => by cases z) hy (by omega)
    obtain ⟨d0, d1⟩ := dv_bd (ns := ns) (y := y) (n := c + 1 + 1 + 1) (show (0 : Int) < 6 by decide)
    rw [nth_map D.int (l := melts) (show (dv ns y (c + 1 + 1 + 1) 6).toNat < 6 by omega) 0] at hp
    exact dt_tup (da_cons (dt_var rfl) (da_cons (dt_var rfl) (da_cons (dt_i0 dt_int (dt_next (n := c + 1 + 1) (o := 0) (dt_var rfl) dt_int rfl (by decide) hy (by omega))) (da_cons hp da_nil))))
  -- the line
  have eA : cnt4 (n + 1 + 1) (mapTurns ns y n) = mapN3 ns y n := rfl
  refine ds_seq (ss1 := f 0) (m1 := [drM ns y (mapN5 ns y n places), .lst (rowsD (mapRaw ns y n places))]) ?_ ?_
  · show DS K _ _ [drM ns y (mapN3 ns y n), .lst (rowsD (roadsA ns y many (n + 1 + 1) (mapTurns ns y n)))] _
    refine ds_if (b := mapLine ns y n) (db_test (dt_i0b (dt_next (n := mapN3 ns y n) (o := 0) (dt_var rfl) dt_int rfl (by decide) hy n3) dt_int)) ?_
    unfold mapN5 mapRaw
    by_cases hl : mapLine ns y n = true
    · rw [if_pos hl, if_pos hl, if_pos hl]
      refine ds_forW [7] f (fun i => [drM ns y (cnt1 (mapN3 ns y n + 1) i), .lst (rowsD (roadsB ns y (mapN3 ns y n + 1) (roadsA ns y many (n + 1 + 1) (mapTurns ns y n)) i))]) rfl (di_rng1 (da_cons (dt_i0 (dt_var rfl) dt_int) da_nil) (show -(2 ^ 62) ≤ many - 1 by omega) (show many - 1 < 2 ^ 62 by omega)) (fun _ => rfl) (fun _ => rfl) fun i hi => ?_
      have hc : 0 ≤ cnt1 (mapN3 ns y n + 1) i := cnt1_nn (by omega) i
      generalize hcc : cnt1 (mapN3 ns y n + 1) i = c at hc
      have ec : cnt1 (mapN3 ns y n + 1) (i + 1) = c + 1 := by rw [← hcc]; rfl
      let L := roadsB ns y (mapN3 ns y n + 1) (roadsA ns y many (n + 1 + 1) (mapTurns ns y n))
      have er : rowsD (L (i + 1)) = rowsD (L i) ++ [roadD (mkLine ns y c i)] := by
        rw [← hcc]
        show List.map roadD (_ ++ [_]) = _
        rw [List.map_append]
        rfl
      have hi' : i < (many - 1).toNat := hi
      have hlen : (rowsD (L i)).length < 16777216 := by
        show (List.map roadD _).length < _
        rw [List.length_map]
        show (roadsB _ _ _ _ _).length < _
        rw [roadsB_len, roadsA_len]
        omega
      refine ⟨[some (.own 0), some (.dat (.int places)), some (.dat (.int many)), some (.own 1), none, none, none, some (.dat (.int (0 + (i : Nat)))), none, none], [], ?_, rfl⟩
      show DS K _ _ [drM ns y c, .lst (rowsD (L i))] (.nx _ [drM ns y (cnt1 (mapN3 ns y n + 1) (i + 1)), .lst (rowsD (L (i + 1)))])
      rw [ec, er]
      refine ds_drop (r := .dat .non) ?_
      refine dt_append (n := 1) (ds := rowsD (L i)) (m1 := [drM ns y c, .lst (rowsD (L i))]) (m2 := [drM ns y (c + 1), .lst (rowsD (L i))]) (dt_var rfl) (da_cons ?_ da_nil) rfl rfl hlen
      exact dt_tup (da_cons (dt_var rfl) (da_cons (dt_i0 (dt_var rfl) dt_int) (da_cons (dt_i0 dt_int (dt_next (n := c) (o := 0) (dt_var rfl) dt_int rfl (by decide) hy hc)) (da_cons dt_int da_nil))))
    · rw [if_neg hl, if_neg hl, if_neg hl]
      exact ds_next
  -- sorted
  refine ds_frz (n := 1) (ds := rowsD (mapRaw ns y n places)) 3 rfl rfl ?_
  let R7 := (sortRoads (mapRaw ns y n places)).take 7
  refine ds_seq (ss1 := [some (.own 0), some (.dat (.int places)), some (.dat (.int many)), some (.dat (.lst (R7.map roadD))), none, none, none, none, none, none]) (m1 := [drM ns y (mapN5 ns y n places), .gone]) (ds_set (i := 3) ?_) ?_
  · have hbd : ∀ r ∈ mapRaw ns y n places, r.Bd := fun r hr => (hraw r hr).bd (by omega)
    have erow : rowsD (mapRaw ns y n places) = ((mapRaw ns y n places).map Road.row).map rowD := by
      rw [List.map_map]
      rfl
    have e7 : DL.cutD (((sortRoads (mapRaw ns y n places)).map Road.row).map rowD) none (some 7) = R7.map roadD := by
      unfold DL.cutD
      rw [HT.sIx_none, List.drop_zero, Nat.sub_zero]
      rw [show HT.sIx (List.map rowD (List.map Road.row (sortRoads (mapRaw ns y n places)))).length (List.map rowD (List.map Road.row (sortRoads (mapRaw ns y n places)))).length (some 7) = min 7 (List.map rowD (List.map Road.row (sortRoads (mapRaw ns y n places)))).length from HT.sIx_nat _ _ 7]
      rw [List.map_map, ← List.map_take, List.length_map]
      show List.map _ (List.take (min 7 (sortRoads (mapRaw ns y n places)).length) (sortRoads (mapRaw ns y n places))) = List.map roadD (List.take 7 (sortRoads (mapRaw ns y n places)))
      rw [show List.take (min 7 (sortRoads (mapRaw ns y n places)).length) (sortRoads (mapRaw ns y n places)) = List.take 7 (sortRoads (mapRaw ns y n places)) by
        rw [List.take_eq_take_iff]
        omega]
      rfl
    rw [← e7]
    refine dt_slL (dt_sortSet (nss := (mapRaw ns y n places).map Road.row) (n := 4) (Bd := 64) (by rw [← erow]; exact dt_var rfl) (by rw [List.length_map]; omega) (by decide) (fun x hx => ?_) (fun out' h => sort_uniq hbd out' h)) do_none (do_some dt_int)
    obtain ⟨r, hr, rfl⟩ := List.mem_map.mp hx
    exact ⟨rfl, hbd r hr⟩
  -- prices
  refine ds_seq (ds_set (dt_lstO da_nil)) ?_
  let g : Nat → Sl := fun _ => [some (.own 0), some (.dat (.int places)), some (.dat (.int many)), some (.dat (.lst (R7.map roadD))), none, none, none, none, some (.own 2), none]
  refine ds_seq (ds_forW [7] g (fun i => [drM ns y (cnt2 (mapN5 ns y n places) i), .gone, .lst ((pricesOf ns y (mapN5 ns y n places) i).map optD)]) rfl (di_rng1 (da_cons (dt_var rfl) da_nil) (show -(2 ^ 62) ≤ many by omega) (show many < 2 ^ 62 by omega)) (fun _ => rfl) (fun _ => rfl) fun i hi => ?_) ?_
  · have hc : 0 ≤ cnt2 (mapN5 ns y n places) i := cnt2_nn n5 i
    generalize hcc : cnt2 (mapN5 ns y n places) i = c at hc
    have ec : cnt2 (mapN5 ns y n places) (i + 1) = c + 1 + 1 := by rw [← hcc]; rfl
    let L := pricesOf ns y (mapN5 ns y n places)
    have er : (L (i + 1)).map optD = (L i).map optD ++ [optD (mkPrice ns y c)] := by
      rw [← hcc]
      show List.map optD (_ ++ [_]) = _
      rw [List.map_append]
      rfl
    have hi' : i < many.toNat := hi
    have hlen : ((L i).map optD).length < 16777216 := by
      rw [List.length_map]
      show (pricesOf _ _ _ _).length < _
      rw [prices_len]
      omega
    refine ⟨[some (.own 0), some (.dat (.int places)), some (.dat (.int many)), some (.dat (.lst (R7.map roadD))), none, none, none, some (.dat (.int (0 + (i : Nat)))), some (.own 2), none], [], ?_, rfl⟩
    show DS K _ _ [drM ns y c, .gone, .lst ((L i).map optD)] (.nx _ [drM ns y (cnt2 (mapN5 ns y n places) (i + 1)), .gone, .lst ((L (i + 1)).map optD)])
    rw [ec, er]
    refine ds_drop (r := .dat .non) ?_
    refine dt_append (n := 2) (ds := (L i).map optD) (m1 := [drM ns y c, .gone, .lst ((L i).map optD)]) (m2 := [drM ns y (c + 1 + 1), .gone, .lst ((L i).map optD)]) (dt_var rfl) (da_cons ?_ da_nil) rfl rfl hlen
    obtain ⟨d0, d1⟩ := dv_bd (ns := ns) (y := y) (n := c + 1) (show (0 : Int) < 4 by decide)
    have e : optD (mkPrice ns y c) = nthD ([none, some (1 + dv ns y c 9), some 2, some 3].map optD) (dv ns y (c + 1) 4).toNat := (nth_map optD (l := [none, some (1 + dv ns y c 9), some 2, some 3]) (show (dv ns y (c + 1) 4).toNat < 4 by omega) none).symm
    rw [e]
    exact dt_pick (n := c + 1) (o := 0) (mem := [drM ns y c, .gone, .lst ((L i).map optD)]) (ts := [none, some (1 + dv ns y c 9), some 2, some 3].map optD) (dt_var rfl) (dt_lst (da_cons dt_non (da_cons (dt_i0 dt_int (dt_next (n := c) (o := 0) (dt_var rfl) dt_int rfl (by decide) hy hc)) (da_cons dt_int (da_cons dt_int da_nil))))) rfl (fun z => by cases z) hy (by omega)
  -- box
  show DS K _ _ [drM ns y (mapN6 ns y n places), .gone, .lst ((mapOf ns y n places).prices.map optD)] _
  refine ds_seq (ss1 := [some (.own 0), some (.dat (.int places)), some (.dat (.int many)), some (.dat (.lst (R7.map roadD))), none, none, none, none, some (.own 2), some (.dat (.tup [.int (mapOf ns y n places).room, .int (mapOf ns y n places).bear]))]) (m1 := [drM ns y (mapEnd ns y n places), .gone, .lst ((mapOf ns y n places).prices.map optD)]) (ds_set (i := 9) (r := .dat (.tup [.int (mapOf ns y n places).room, .int (mapOf ns y n places).bear])) ?_) ?_
  · have hp : DT K _ (g 0) [drM ns y (mapN6 ns y n places + 1), .gone, .lst ((mapOf ns y n places).prices.map optD)] (.dat (nthD (bears.map D.int) (dv ns y (mapN6 ns y n places + 1) 4).toNat)) _ :=
      dt_pick (n := mapN6 ns y n places + 1) (o := 0) (E := E0) (to := tVar 0) (mem := [drM ns y (mapN6 ns y n places + 1), .gone, .lst ((mapOf ns y n places).prices.map optD)]) (ts := bears.map D.int) (dt_var rfl) (dt_lst (da_cons dt_int (da_cons dt_int (da_cons dt_int (da_cons dt_int da_nil))))) rfl (fun z => by cases z) hy (by omega)
    obtain ⟨d0, d1⟩ := dv_bd (ns := ns) (y := y) (n := mapN6 ns y n places + 1) (show (0 : Int) < 4 by decide)
    rw [nth_map D.int (l := bears) (show (dv ns y (mapN6 ns y n places + 1) 4).toNat < 4 by omega) 0] at hp
    exact dt_tup (da_cons (dt_i0 dt_int (dt_next (n := mapN6 ns y n places) (o := 0) (dt_var rfl) dt_int rfl (by decide) hy n6)) (da_cons hp da_nil))
  exact ds_ret (dt_make (da_cons (dt_var rfl) (da_cons (dt_tupleL (dt_var rfl)) (da_cons (dt_tupleO (n := 2) (dt_var rfl) rfl) (da_cons (dt_var rfl) da_nil)))) ⟨mapOf ns y n places, hMok, rfl, rfl, rfl, rfl⟩)
end
end K2
end
section
set_option Elab.async false
set_option linter.all false
set_option maxRecDepth 100000
set_option maxHeartbeats 4000000
namespace K2
open PySem PySem.Spec PyProof.Rows L2 DL
/-! ### drawn states -/
def stOf (ns : List Int) (y n : Int) (M : MapD) : StD :=
  if dv ns y (n + 1) 2 = 0 then ⟨0, 0, 0, dv ns y (n + 1 + 1) 4⟩ else ⟨dv ns y n M.places, dv ns y (n + 1 + 1) (M.room + 1), dv ns y (n + 1 + 1 + 1) (M.bear + 1), dv ns y (n + 1 + 1 + 1 + 1) 5⟩
def stEnd (ns : List Int) (y n : Int) : Int := if dv ns y (n + 1) 2 = 0 then n + 1 + 1 + 1 else n + 1 + 1 + 1 + 1 + 1
theorem stOf_ok {ns : List Int} {y n : Int} {M : MapD} (h : M.Ok) : (stOf ns y n M).Ok M := by
  have p2 := h.p2
  have m1 := h.m1
  have b0 := h.b0
  obtain ⟨a0, a1⟩ := dv_bd (ns := ns) (y := y) (n := n) (show 0 < M.places by omega)
  obtain ⟨c0, c1⟩ := dv_bd (ns := ns) (y := y) (n := n + 1 + 1) (show 0 < M.room + 1 by omega)
  obtain ⟨d0, d1⟩ := dv_bd (ns := ns) (y := y) (n := n + 1 + 1 + 1) (show 0 < M.bear + 1 by omega)
  obtain ⟨e0, e1⟩ := dv_bd (ns := ns) (y := y) (n := n + 1 + 1 + 1 + 1) (show (0 : Int) < 5 by decide)
  obtain ⟨f0, f1⟩ := dv_bd (ns := ns) (y := y) (n := n + 1 + 1) (show (0 : Int) < 4 by decide)
  unfold stOf
  split
  · exact ⟨by show (0 : Int) ≤ 0; decide, by show (0 : Int) ≤ M.places - 1; omega, by show (0 : Int) ≤ 0; decide, by show (0 : Int) ≤ M.room; omega, by show (0 : Int) ≤ 0; decide, b0, f0, by show dv ns y (n + 1 + 1) 4 ≤ 4; omega⟩
  · exact ⟨a0, by show dv ns y n M.places ≤ M.places - 1; omega, c0, by show dv ns y (n + 1 + 1) (M.room + 1) ≤ M.room; omega, d0, by show dv ns y (n + 1 + 1 + 1) (M.bear + 1) ≤ M.bear; omega, e0, by show dv ns y (n + 1 + 1 + 1 + 1) 5 ≤ 4; omega⟩
theorem stEnd_nn {ns : List Int} {y n : Int} (h : 0 ≤ n) : 0 ≤ stEnd ns y n := by
  unfold stEnd
  split <;> omega
theorem inR_of {M : MapD} {s : StD} (h : M.Ok) (hs : s.Ok M) : InR M s := by
  have pl := h.pl
  have p1 := hs.p1
  exact ⟨h.r7, hs.p0, by omega, hs.i0, hs.i1, h.m6⟩
theorem inM_of {M : MapD} {s : StD} {r : Nat} (h : M.Ok) (hs : s.Ok M) (hr : r < M.roads.length) : InM M s r := by
  have hm : M.road r ∈ M.roads := by
    unfold MapD.road
    rw [List.getD_eq_getElem?_getD, List.getElem?_eq_getElem hr]
    exact List.getElem_mem hr
  have q := h.rd _ hm
  have h1 := q.h1
  exact ⟨hr, by omega, q.h4, hs.l0, hs.l1⟩
/-- how many were drawn behind a turn of the law's inner loop -/
def turnEnd (ns : List Int) (y n : Int) (M : MapD) : Int := if M.moves (stOf ns y n M) = [] then stEnd ns y n else stEnd ns y n + 1
def turnsEnd (ns : List Int) (y n : Int) (M : MapD) : Nat → Int
  | 0 => n
  | i + 1 => turnEnd ns y (turnsEnd ns y n M i) M
theorem turnsEnd_nn {ns : List Int} {y n : Int} {M : MapD} (h : 0 ≤ n) : ∀ i, 0 ≤ turnsEnd ns y n M i
  | 0 => h
  | i + 1 => by
    have := stEnd_nn (ns := ns) (y := y) (turnsEnd_nn (ns := ns) (y := y) (M := M) h i)
    show 0 ≤ turnEnd ns y (turnsEnd ns y n M i) M
    unfold turnEnd
    split <;> omega
theorem mapEnd_nn {ns : List Int} {y n places : Int} (h : 0 ≤ n) : 0 ≤ mapEnd ns y n places := by
  have := n6_nn (ns := ns) (y := y) (places := places) h
  unfold mapEnd
  omega
theorem flat_ends (M : MapD) (s : StD) (p r : Nat) : D.flat 3 (.lst (M.ends s p r)) = true := by
  rw [D.flat]
  refine flatAll_of fun d hd => ?_
  unfold MapD.ends at hd
  obtain ⟨i, _, rfl⟩ := List.mem_map.mp hd
  unfold endD
  split
  · simp [D.flat, D.flatAll]
  · simp [D.flat]
theorem rgc4 : ∀ j : Int, 1 ≤ j → j ≤ 16 → ∃ n : Nat, RgC 0 j 4 n := by
  intro j h1 h2
  have key : ∀ k : Nat, k < 17 → Builtin.Range.small 0 (k : Int) 4 = true ∧ Builtin.Range.rangeSize 0 (k : Int) 4 = ((Builtin.Range.rangeSize 0 (k : Int) 4).toNat : Nat) := by decide +kernel
  obtain ⟨e1, e2⟩ := key j.toNat (by omega)
  rw [Int.toNat_of_nonneg (by omega)] at e1 e2
  exact ⟨_, by decide, by decide, e1, e2⟩
theorem top_bd (l : Int) : 1 ≤ (if (if l < 16 then l else 16) > 1 then (if l < 16 then l else 16) else 1) ∧ (if (if l < 16 then l else 16) > 1 then (if l < 16 then l else 16) else 1) ≤ 16 := by
  constructor
  · split <;> (try split) <;> omega
  · split
    · split <;> omega
    · omega
section
variable {P : Program} {w : World} {K : PySem.W.Frag} {mg : Str → Option Value} {base : Heap} {k : Nat}
theorem ok_Map___len__ (T : Txt K mg) : FnOk P w K mg base CX0 1 T.a_Map___len__ T.fd_Map___len__ ["self"] (spP K 1 fun ds d => ∃ M, ds = [mapD T.C_Map M] ∧ d = .int M.roads.length) := by
  refine fnP T.F_Map___len__ sc_Map___len__ rfl (fun cdv A outer s H E hr => ?_)
  refine ⟨_, (pss_one (ps_ret (pe_callB (callLen K) (by rfl) T.n_len PySem.boot_len (pa_cons (peFld K (pv 0)) pa_nil)))), ?_⟩
  rintro ds d ⟨M, rfl, rfl⟩ -
  refine .rt (ds_ret ?_)
  have h : DT K _ [some (.dat (mapD T.C_Map M))] [] (.dat (.int (M.roads.map roadD).length)) [] := dt_lenT (dt_fld (te := tVar 0) (gs := mapFs M) (dt_var rfl) T.cl T.na_Map__roads rfl)
  rw [List.length_map] at h
  exact h
def R_state (C : Addr) (m : Mc) (ds : List D) (d : D) (m' : Mc) : Prop := ∃ ns y n M, m = drM ns y n ∧ ds = [mapD C M] ∧ M.Ok ∧ 0 ≤ y ∧ 0 ≤ n ∧ d = stD (stOf ns y n M) ∧ m' = drM ns y (stEnd ns y n)
theorem ok__law_state (T : Txt K mg) : FnOk P w K mg base CX0 4 T.a__law_state T.fd__law_state ["_law_draw_here", "_law_chart"] (spO K 2 (R_state T.C_Map)) := by
  refine fnO T.F__law_state sc__law_state rfl (fun cdv A outer s H E hr => ?_)
  refine ⟨_, (pss_cons (ps_set (i := 2) sc__law_state.nd rfl (.inl rfl) (pe_call (ok__law_next T) (hr.mono (by decide)) (by rfl) T.g__law_next T.F__law_next.kp T.b__law_next .nil pass0 (pa_cons (pv 0) (pa_cons (pe_prop (pv 1) T.cl T.PO_places (get_places (k := 0) T) (hr.mono (by decide)) T.b_Map_places .nil pass0 rfl) pa_nil))))
  (pss_cons (ps_if (pt_cmpR op_eq (pe_call (ok__law_next T) (hr.mono (by decide)) (by rfl) T.g__law_next T.F__law_next.kp T.b__law_next .nil pass0 (pa_cons (pv 0) (pa_cons pe_int pa_nil))) pe_int (nomark _)) (pss_one (ps_ret (pe_tup (pa_cons pe_int (pa_cons pe_int (pa_cons pe_int (pa_cons (pe_call (ok__law_next T) (hr.mono (by decide)) (by rfl) T.g__law_next T.F__law_next.kp T.b__law_next .nil pass0 (pa_cons (pv 0) (pa_cons pe_int pa_nil))) pa_nil))))))) pss_nil)
  (pss_cons (ps_par (i := 3) (j := 4) (by rfl) sc__law_state.nd rfl rfl (by decide) rfl rfl (pa_cons (pe_call (ok__law_next T) (hr.mono (by decide)) (by rfl) T.g__law_next T.F__law_next.kp T.b__law_next .nil pass0 (pa_cons (pv 0) (pa_cons (pe_op op_add (pe_ix (ixT K) (pe_prop (pv 1) T.cl T.PO_box (get_box (k := 0) T) (hr.mono (by decide)) T.b_Map_box .nil pass0 rfl) pe_int (fun _ _ => rfl)) pe_int) pa_nil))) (pa_cons (pe_call (ok__law_next T) (hr.mono (by decide)) (by rfl) T.g__law_next T.F__law_next.kp T.b__law_next .nil pass0 (pa_cons (pv 0) (pa_cons (pe_op op_add (pe_ix (ixT K) (pe_prop (pv 1) T.cl T.PO_box (get_box (k := 0) T) (hr.mono (by decide)) T.b_Map_box .nil pass0 rfl) pe_int (fun _ _ => rfl)) pe_int) pa_nil))) pa_nil)) (by rfl))
  (pss_one (ps_ret (pe_tup (pa_cons (pv 2) (pa_cons (pv 3) (pa_cons (pv 4) (pa_cons (pe_call (ok__law_next T) (hr.mono (by decide)) (by rfl) T.g__law_next T.F__law_next.kp T.b__law_next .nil pass0 (pa_cons (pv 0) (pa_cons pe_int pa_nil))) pa_nil)))))))))), ?_⟩
  rintro m ds d m' ⟨ns, y, n, M, rfl, rfl, h, hy, hn, rfl, rfl⟩ -
  have p2 := h.p2
  have m1 := h.m1
  have b0 := h.b0
  refine .rt (ds_seq (ds_set (dt_next (n := n) (o := 0) (dt_var rfl) (dt_prop (dt_var rfl) rfl) rfl (by omega) hy hn)) ?_)
  unfold stOf stEnd
  by_cases hc : dv ns y (n + 1) 2 = 0
  · rw [if_pos hc, if_pos hc]
    refine ds_stop (ds_if (b := decide (dv ns y (n + 1) 2 = 0)) (db_test (dt_eqI (dt_next (n := n + 1) (o := 0) (dt_var rfl) dt_int rfl (by decide) hy (by omega)) dt_int)) ?_)
    rw [if_pos (decide_eq_true hc)]
    exact ds_ret (dt_tup (da_cons dt_int (da_cons dt_int (da_cons dt_int (da_cons (dt_next (n := n + 1 + 1) (o := 0) (dt_var rfl) dt_int rfl (by decide) hy (by omega)) da_nil)))))
  · rw [if_neg hc, if_neg hc]
    refine ds_seq (ss1 := [some (.own 0), some (.dat (mapD T.C_Map M)), some (.dat (.int (dv ns y n M.places))), none, none]) (m1 := [drM ns y (n + 1 + 1)]) (ds_if (b := decide (dv ns y (n + 1) 2 = 0)) (db_test (dt_eqI (dt_next (n := n + 1) (o := 0) (dt_var rfl) dt_int rfl (by decide) hy (by omega)) dt_int)) ?_) ?_
    · rw [if_neg (by simpa using hc)]
      exact ds_next
    · refine ds_seq (ds_par (da_cons (dt_next (n := n + 1 + 1) (o := 0) (dt_var rfl) (dt_i0 (dt_ixT (dt_prop (dt_var rfl) rfl) dt_int rfl) dt_int) rfl (by omega) hy (by omega)) (da_cons (dt_next (n := n + 1 + 1 + 1) (o := 0) (dt_var rfl) (dt_i0 (dt_ixT (dt_prop (dt_var rfl) rfl) dt_int rfl) dt_int) rfl (by omega) hy (by omega)) da_nil))) ?_
      exact ds_ret (dt_tup (da_cons (dt_var rfl) (da_cons (dt_var rfl) (da_cons (dt_var rfl) (da_cons (dt_next (n := n + 1 + 1 + 1 + 1) (o := 0) (dt_var rfl) dt_int rfl (by decide) hy (by omega)) da_nil)))))
/-! ### the law -/
def R_law (ds : List D) (d : D) : Prop := ∃ ns : List Int, ns.length ≤ 63 ∧ ds = [.lst (ns.map .int)] ∧ d = .bl true
end
end K2
end
section
set_option Elab.async false
set_option linter.all false
set_option maxRecDepth 100000
set_option maxHeartbeats 4000000
namespace K2
open PySem PySem.Spec PyProof.Rows L2 DL
/-! ### heights: what the program asks of them -/
def StD.row (s : StD) : List Int := [s.p, s.i, s.w, s.l]
def stO : Option StD → D
  | none => .non
  | some s => stD s
def endS (M : MapD) (r : Road) (l : Int) (x : Int × Int) (more : Nat) : Option StD := if x.2 ≤ M.bear then some ⟨r.b, x.1, x.2, l - more⟩ else none
def MapD.endsS (M : MapD) (s : StD) (pieces : Nat) (road : Nat) : List (Option StD) :=
  (List.range (s.l + 1).toNat).map fun more => endS M (M.road road) s.l (hours (M.road road).m (s.i + pieces, s.w) ((M.road road).h.toNat + more)) more
theorem ends_eq (M : MapD) (s : StD) (p r : Nat) : M.ends s p r = (M.endsS s p r).map stO := by
  unfold MapD.ends MapD.endsS
  rw [List.map_map]
  refine List.map_congr_left fun more _ => ?_
  unfold endD endS
  show _ = stO (if _ then _ else _)
  split <;> rfl
/-- the moves as pairs -/
def MapD.mv (M : MapD) (s : StD) : List (Nat × Nat) := (List.range (M.most s + 1).toNat).flatMap fun i => (M.lead s.p).map fun r => (i, r)
theorem moves_eq (M : MapD) (s : StD) : M.moves s = (M.mv s).map fun m => mvD m.1 m.2 := by
  unfold MapD.moves MapD.mv
  rw [List.map_flatMap]
  refine congrArg (fun f => List.flatMap f _) (funext fun i => ?_)
  rw [List.map_map]
  rfl
def MapD.feeAt (M : MapD) (p : Int) (pieces : Nat) : Int := match M.price p with
  | none => 0
  | some x => pieces * x
def MapD.fee (M : MapD) (s : StD) (pieces : Nat) : Int := M.feeAt s.p pieces
def MapD.done (M : MapD) (s : StD) : Bool := decide (s.p = M.places - 1)
def within (hs : List (List Int × Int)) (most : Int) (e : Option StD) : Bool := match e with
  | none => false
  | some s => match lookI hs s.row with
    | none => false
    | some h => decide (h ≤ most)
def heightOk (M : MapD) (hs : List (List Int × Int)) (s : StD) : Bool :=
  let h := (lookI hs s.row).getD 0
  !decide (h < 0) && (M.done s || (M.mv s).any fun m => (M.endsS s m.1 m.2).all (within hs (h - M.fee s m.1)))
theorem getD_toD (ls : List (List Int × Int)) (r : List Int) : (getI (toD ls) r).getD (.int 0) = .int ((lookI ls r).getD 0) := by
  rw [getI_toD]
  cases lookI ls r <;> rfl
section
variable {P : Program} {w : World} {K : PySem.W.Frag} {mg : Str → Option Value} {base : Heap} {k : Nat}
def R_is_done (C : Addr) (ds : List D) (d : D) : Prop := ∃ M s, ds = [mapD C M, stD s] ∧ d = .bl (M.done s)
theorem ok_is_done (T : Txt K mg) : FnOk P w K mg base CX0 3 T.a_is_done T.fd_is_done ["chart", "state"] (spP K 2 (R_is_done T.C_Map)) := by
  refine fnP T.F_is_done sc_is_done rfl (fun cdv A outer s H E hr => ?_)
  refine ⟨_, (pss_one (ps_ret (pe_cmpR op_eq (pe_ix (ixT K) (pv 1) pe_int (fun _ _ => rfl)) (pe_op op_sub (pe_prop (pv 0) T.cl T.PO_places (get_places (k := 0) T) (hr.mono (by decide)) T.b_Map_places .nil pass0 rfl) pe_int) (nomark _)))), ?_⟩
  rintro ds d ⟨M, s, rfl, rfl⟩ -
  exact .rt (ds_ret (dt_eqI (dt_ixT (dt_var rfl) dt_int rfl) (dt_i0 (dt_prop (dt_var rfl) rfl) dt_int)))
structure FeeOk (M : MapD) (s : StD) (p : Nat) : Prop where
  p0 : 0 ≤ s.p
  pn : s.p < M.prices.length
  p6 : p ≤ 6
  pr : ∀ x, M.price s.p = some x → 1 ≤ x ∧ x ≤ 9
def R_pieces_cost (C : Addr) (ds : List D) (d : D) : Prop := ∃ (M : MapD) (p : Int) (n : Nat), ds = [mapD C M, .int p, .int (n : Nat)] ∧ 0 ≤ p ∧ p < M.prices.length ∧ n ≤ 6 ∧ (∀ x, M.price p = some x → 1 ≤ x ∧ x ≤ 9) ∧ d = .int (M.feeAt p n)
theorem ok_pieces_cost (T : Txt K mg) : FnOk P w K mg base CX0 3 T.a_pieces_cost T.fd_pieces_cost ["chart", "place", "pieces"] (spP K 3 (R_pieces_cost T.C_Map)) := by
  refine fnP T.F_pieces_cost sc_pieces_cost rfl (fun cdv A outer s H E hr => ?_)
  refine ⟨_, (pss_cons (ps_set (i := 3) sc_pieces_cost.nd rfl (.inl rfl) (pe_ix (ixT K) (pe_prop (pv 0) T.cl T.PO_prices (get_prices (k := 0) T) (hr.mono (by decide)) T.b_Map_prices .nil pass0 rfl) (pv 1) (fun _ _ => rfl)))
  (pss_one (ps_ret (pe_ifExp (pt_cmp (pc_isN (pv 3))) pe_int (pe_op op_mul (pv 2) (pv 3)))))), ?_⟩
  rintro ds d ⟨M, p, n, rfl, p0, pn, n6, pr, rfl⟩ -
  refine .rt (ds_seq (ds_set (dt_ixT (dt_prop (dt_var rfl) rfl) (dt_var rfl) (price_at p0 pn))) (ds_ret ?_))
  unfold MapD.feeAt
  cases q : M.price p with
  | none => exact dt_if (b := true) (db_b (dt_isN (d := .non) (dt_var rfl))) dt_int
  | some x =>
    obtain ⟨x1, x9⟩ := pr x q
    refine dt_if (b := false) (db_b (dt_isN (d := .int x) (dt_var rfl))) ?_
    exact dt_ic (C := CMul) (g := fun a b => a * b) (i := ((n : Nat) : Int)) (j := x) (dt_var rfl) (dt_var rfl) (Or.inr ⟨by omega, by omega⟩)
def R_move_cost (C : Addr) (ds : List D) (d : D) : Prop := ∃ M s p r, ds = [mapD C M, stD s, mvD p r] ∧ FeeOk M s p ∧ d = .int (M.fee s p)
theorem ok_move_cost (T : Txt K mg) : FnOk P w K mg base CX0 4 T.a_move_cost T.fd_move_cost ["chart", "state", "move"] (spP K 3 (R_move_cost T.C_Map)) := by
  refine fnP T.F_move_cost sc_move_cost rfl (fun cdv A outer s H E hr => ?_)
  refine ⟨_, (pss_one (ps_ret (pe_call (ok_pieces_cost T) (hr.mono (by decide)) (by rfl) T.g_pieces_cost T.F_pieces_cost.kp T.b_pieces_cost .nil pass0 (pa_cons (pv 0) (pa_cons (pe_ix (ixT K) (pv 1) pe_int (fun _ _ => rfl)) (pa_cons (pe_ix (ixT K) (pv 2) pe_int (fun _ _ => rfl)) pa_nil)))))), ?_⟩
  rintro ds d ⟨M, s, p, r, rfl, h, rfl⟩ -
  exact .rt (ds_ret (dt_call (da_cons (dt_var rfl) (da_cons (dt_ixT (dt_var rfl) dt_int rfl) (da_cons (dt_ixT (dt_var rfl) dt_int rfl) da_nil))) ⟨M, s.p, p, rfl, h.p0, h.pn, h.p6, h.pr, rfl⟩))
def reached (ls : List (List Int × Int)) (s : StD) (n : Int) : Bool := decide (n ≤ 0) || decide ((lookI ls s.row).getD 0 ≥ n)
def R_is_within (ds : List D) (d : D) : Prop := ∃ (hs : List (List Int × Int)) (s : StD) (most : Int), ds = [.dic (toD hs), stD s, .int most] ∧ d = .bl (within hs most (some s))
theorem ok_is_within (T : Txt K mg) : FnOk P w K mg base CX0 2 T.a_is_within T.fd_is_within ["heights", "state", "most"] (spP K 3 R_is_within) := by
  refine fnP T.F_is_within sc_is_within rfl (fun cdv A outer s H E hr => ?_)
  refine ⟨_, (pss_one (ps_ret (pe_and (pe_cmp (pc_din (DL.rm1 hr) (pv 1) (pv 0)) rfl) (pe_one (pe_cmpR op_le (pe_dget (DL.rm1 hr) (pv 0) (pv 1) (fun _ _ => rfl)) (pv 2) (nomark _)))))), ?_⟩
  rintro ds d ⟨hs, s, most, rfl, rfl⟩ -
  refine .rt (ds_ret ?_)
  have din := dt_din (k := s.row) (m := toD hs) (x := .dat (.dic (toD hs))) (ss := [some (.dat (.dic (toD hs))), some (.dat (stD s)), some (.dat (.int most))]) (mem := []) (dt_var (K := K) (i := 1) rfl) (dt_var (i := 0) rfl) .dat
  rw [getI_toD] at din
  unfold within
  dsimp only
  cases q : lookI hs s.row with
  | none =>
    rw [q] at din
    exact dt_andV_f din
  | some h =>
    rw [q] at din
    exact dt_andV_t (b := decide (h ≤ most)) din (dt_i0b (dt_dget (k := s.row) (d := .int h) (m := toD hs) (x := .dat (.dic (toD hs))) (dt_var rfl) (dt_var rfl) .dat (by rw [getI_toD, q]; rfl)) (dt_var rfl))
def R_is_reached (ds : List D) (d : D) : Prop := ∃ (ls : List (List Int × Int)) (s : StD) (n : Int), ds = [.dic (toD ls), stD s, .int n] ∧ d = .bl (reached ls s n)
theorem ok_is_reached (T : Txt K mg) : FnOk P w K mg base CX0 2 T.a_is_reached T.fd_is_reached ["levels", "state", "number"] (spP K 3 R_is_reached) := by
  refine fnP T.F_is_reached sc_is_reached rfl (fun cdv A outer s H E hr => ?_)
  refine ⟨_, (pss_one (ps_ret (pe_or (pe_cmpR op_le (pv 2) pe_int (nomark _)) (pe_one (pe_cmpR op_ge (pe_dget2 (DL.rm1 hr) (pv 0) (pv 1) pe_int ⟨rfl, rfl, rfl, rfl⟩) (pv 2) (nomark _)))))), ?_⟩
  rintro ds d ⟨ls, s, n, rfl, rfl⟩ -
  refine .rt (ds_ret ?_)
  let sl : Sl := [some (.dat (.dic (toD ls))), some (.dat (stD s)), some (.dat (.int n))]
  have g2 : DT K (tDGet2 (tVar 0) (tVar 1) (tC (.int 0))) sl [] (.dat (.int ((lookI ls s.row).getD 0))) [] := by
    have z := dt_dget2 (K := K) (ss := sl) (mem := []) (k := s.row) (m := toD ls) (e := .int 0) (x := .dat (.dic (toD ls))) (dt_var (i := 0) rfl) .dat (dt_var (i := 1) rfl) (dt_int (i := 0)) .dat
    rw [getD_toD] at z
    exact z
  exact dt_orV (dt_i0b (g := fun i j => decide (i ≤ j)) (dt_var (i := 2) rfl) (dt_int (i := 0))) fun _ => dt_i0b (g := fun i j => decide (i ≥ j)) g2 (dt_var (i := 2) rfl)
def R_are_within (ds : List D) (d : D) : Prop := ∃ (hs : List (List Int × Int)) (es : List (Option StD)) (most : Int), ds = [.dic (toD hs), .lst (es.map stO), .int most] ∧ es.length ≤ 5 ∧ (∀ p ∈ hs, p.1 ∈ rows4) ∧ d = .bl (es.all (within hs most))
theorem ok_are_within (T : Txt K mg) : FnOk P w K mg base CX0 3 T.a_are_within T.fd_are_within ["heights", "ends", "most"] (spP K 3 R_are_within) := by
  refine fnP T.F_are_within sc_are_within rfl (fun cdv A outer s H E hr => ?_)
  refine ⟨_, (pss_one (ps_ret (pe_callB (crAll K) (by rfl) T.n_all (by decide +kernel) (pa_cons (pe_lc (own := [("end", 3)]) rfl sc_are_within.nd (piList K (pv 1)) (blkOk_by (own := [("end", 3)]) (N := ["heights", "ends", "most", "end"]) (sc := defScope s_are_within) (by decide +kernel)) (fun _ _ _ _ _ => (pg_name (i := 3) sc_are_within.nd rfl (.inl rfl))) (fun _ _ _ _ _ => pts_nil) (fun _ _ _ _ _ => (pe_and (pe_cmp (pc_notN (pv 3)) rfl) (pe_one (pe_call (ok_is_within T) (hr.mono (by decide)) (by rfl) T.g_is_within T.F_is_within.kp T.b_is_within .nil pass0 (pa_cons (pv 0) (pa_cons (pv 3) (pa_cons (pv 2) pa_nil)))))))) pa_nil)))), ?_⟩
  rintro ds d ⟨hs, es, most, rfl, h5, inn, rfl⟩ -
  refine .rt (ds_ret ?_)
  have e : (es.map stO).length = es.length := List.length_map _
  have all : (List.range (es.map stO).length).map (fun i => D.bl (within hs most (es.getD i none))) = (es.map (within hs most)).map D.bl := by
    refine List.ext_getElem? fun i => ?_
    rw [e]
    simp only [List.getElem?_map]
    by_cases h : i < es.length
    · rw [List.getElem?_range h, List.getElem?_eq_getElem h]
      show some (D.bl (within hs most (es.getD i none))) = some (D.bl (within hs most es[i]))
      rw [List.getD_eq_getElem?_getD, List.getElem?_eq_getElem h]
      rfl
    · rw [List.getElem?_eq_none (by rw [List.length_range]; omega), List.getElem?_eq_none (by omega)]
      rfl
  have key : es.all (within hs most) = (es.map (within hs most)).all id := by rw [List.all_map]; rfl
  rw [key]
  refine dt_all ?_
  rw [← all]
  refine dt_lcMap (di_list (dt_var (i := 1) rfl)) (fun i => .bl (within hs most (es.getD i none))) (by omega) fun i hi => ⟨_, _, dg_name, by decide, ?_⟩
  rw [e] at hi
  rw [nth_map stO hi none]
  generalize es.getD i none = o
  cases o with
  | none => exact dt_andV_f (dt_notN (d := .non) (dt_var rfl))
  | some s => exact dt_andV_t (b := within hs most (some s)) (dt_notN (d := stD s) (dt_var rfl)) (dt_call (da_cons (dt_var (i := 0) rfl) (da_cons (dt_var (i := 3) rfl) (da_cons (dt_var (i := 2) rfl) da_nil))) ⟨hs, s, most, rfl, rfl⟩)
end
end K2
end
section
set_option Elab.async false
set_option linter.all false
set_option maxRecDepth 100000
set_option maxHeartbeats 4000000
namespace K2
open PySem PySem.Spec PyProof.Rows L2 DL
theorem mv_in {M : MapD} {s : StD} {m : Nat × Nat} (h : m ∈ M.mv s) : (m.1 : Int) ≤ M.most s ∧ m.2 ∈ M.lead s.p := by
  obtain ⟨i, hi, hm⟩ := List.mem_flatMap.mp h
  obtain ⟨r, hr, rfl⟩ := List.mem_map.mp hm
  exact ⟨by have := List.mem_range.mp hi; show (i : Int) ≤ _; omega, hr⟩
theorem inR {M : MapD} {s : StD} (hM : M.Ok) (hs : s.Ok M) : InR M s := ⟨hM.r7, hs.p0, by have := hM.pl; have := hs.p1; omega, hs.i0, hs.i1, hM.m6⟩
theorem price_ok {M : MapD} {s : StD} (hM : M.Ok) (hs : s.Ok M) : ∀ x, M.price s.p = some x → 1 ≤ x ∧ x ≤ 9 := fun x e => by
  have lt : s.p.toNat < M.prices.length := by have := hM.pl; have := hs.p1; have := hs.p0; omega
  unfold MapD.price at e
  rw [List.getD_eq_getElem?_getD, List.getElem?_eq_getElem lt] at e
  exact hM.pr _ (List.getElem_mem lt) x e
theorem feeOk {M : MapD} {s : StD} (hM : M.Ok) (hs : s.Ok M) {m : Nat × Nat} (h : m ∈ M.mv s) : FeeOk M s m.1 :=
  ⟨hs.p0, (inR hM hs).pn, by have := (mv_in h).1; have := (most_bd (inR hM hs)).2; omega, price_ok hM hs⟩
theorem inM {M : MapD} {s : StD} (hM : M.Ok) (hs : s.Ok M) {m : Nat × Nat} (h : m ∈ M.mv s) : InM M s m.2 := by
  have lt := lead_lt (mv_in h).2
  have mem : M.road m.2 ∈ M.roads := by
    unfold MapD.road
    rw [List.getD_eq_getElem?_getD, List.getElem?_eq_getElem lt]
    exact List.getElem_mem lt
  have ok := hM.rd _ mem
  exact ⟨lt, by have := ok.h1; omega, ok.h4, hs.l0, hs.l1⟩
theorem ends_len {M : MapD} {s : StD} (hs : s.Ok M) (p r : Nat) : (M.endsS s p r).length ≤ 5 := by
  unfold MapD.endsS
  rw [List.length_map, List.length_range]
  have := hs.l1
  omega
theorem any_range {α : Type} (p : α → Bool) (z : α) : ∀ l : List α, (List.range l.length).any (fun i => p (l.getD i z)) = l.any p := fun l => by
  rw [Bool.eq_iff_iff, List.any_eq_true, List.any_eq_true]
  constructor
  · rintro ⟨i, hi, h⟩
    have lt := List.mem_range.mp hi
    rw [List.getD_eq_getElem?_getD, List.getElem?_eq_getElem lt] at h
    exact ⟨_, List.getElem_mem lt, h⟩
  · rintro ⟨x, hx, h⟩
    obtain ⟨i, lt, rfl⟩ := List.mem_iff_getElem.mp hx
    exact ⟨i, List.mem_range.mpr lt, by rw [List.getD_eq_getElem?_getD, List.getElem?_eq_getElem lt]; exact h⟩
section
variable {P : Program} {w : World} {K : PySem.W.Frag} {mg : Str → Option Value} {base : Heap} {k : Nat}
def R_height (C : Addr) (ds : List D) (d : D) : Prop := ∃ (M : MapD) (hs : List (List Int × Int)) (s : StD) (h : Int), ds = [mapD C M, .dic (toD hs), stD s] ∧ M.Ok ∧ s.Ok M ∧ lookI hs s.row = some h ∧ (∀ p ∈ hs, p.1 ∈ rows4) ∧ d = .bl (heightOk M hs s)
theorem ok_height_holds (T : Txt K mg) : FnOk P w K mg base CX0 6 T.a_height_holds T.fd_height_holds ["chart", "heights", "state"] (spP K 3 (R_height T.C_Map)) := by
  refine fnP T.F_height_holds sc_height_holds rfl (fun cdv A outer s H E hr => ?_)
  refine ⟨_, (pss_cons (ps_set (i := 3) sc_height_holds.nd rfl (.inl rfl) (pe_dget (DL.rm1 hr) (pv 1) (pv 2) (fun _ _ => rfl)))
  (pss_cons (ps_if (pt_cmpR op_lt (pv 3) pe_int (nomark _)) (pss_one (ps_ret pe_bl)) pss_nil)
  (pss_cons (ps_if (pt_val (pe_call (ok_is_done T) (hr.mono (by decide)) (by rfl) T.g_is_done T.F_is_done.kp T.b_is_done .nil pass0 (pa_cons (pv 0) (pa_cons (pv 2) pa_nil)))) (pss_one (ps_ret pe_bl)) pss_nil)
  (pss_cons (ps_for PassesOwn.never rfl (piList K (pe_call (ok_possible_moves T) (hr.mono (by decide)) (by rfl) T.g_possible_moves T.F_possible_moves.kp T.b_possible_moves .nil pass0 (pa_cons (pv 0) (pa_cons (pv 2) pa_nil)))) (pg_name (i := 4) sc_height_holds.nd rfl (.inl rfl)) (pss_cons (ps_set (i := 5) sc_height_holds.nd rfl (.inl rfl) (pe_op op_sub (pv 3) (pe_call (ok_move_cost T) (hr.mono (by decide)) (by rfl) T.g_move_cost T.F_move_cost.kp T.b_move_cost .nil pass0 (pa_cons (pv 0) (pa_cons (pv 2) (pa_cons (pv 4) pa_nil))))))
  (pss_one (ps_if (pt_val (pe_call (ok_are_within T) (hr.mono (by decide)) (by rfl) T.g_are_within T.F_are_within.kp T.b_are_within .nil pass0 (pa_cons (pv 1) (pa_cons (pe_call (ok_move_results T) (hr.mono (by decide)) (by rfl) T.g_move_results T.F_move_results.kp T.b_move_results .nil pass0 (pa_cons (pv 0) (pa_cons (pv 2) (pa_cons (pv 4) pa_nil)))) (pa_cons (pv 5) pa_nil))))) (pss_one (ps_ret pe_bl)) pss_nil))))
  (pss_one (ps_ret pe_bl)))))), ?_⟩
  rintro ds d ⟨M, hs, s, h, rfl, hM, hS, look, inn, rfl⟩ -
  have look' : getI (toD hs) s.row = some (.int h) := by rw [getI_toD, look]; rfl
  unfold heightOk
  simp only [look, Option.getD_some]
  refine .rt (ds_seq (ds_set (dt_dget (k := s.row) (d := .int h) (m := toD hs) (x := .dat (.dic (toD hs))) (dt_var rfl) (dt_var rfl) .dat look')) ?_)
  by_cases neg : h < 0
  · rw [decide_eq_true neg]
    exact ds_stop (ds_if (b := decide (h < 0)) (db_test (dt_i0b (dt_var rfl) dt_int)) (by rw [if_pos (decide_eq_true neg)]; exact ds_ret dt_bl))
  · rw [decide_eq_false neg]
    refine ds_seq (ds_if (b := decide (h < 0)) (db_test (dt_i0b (dt_var rfl) dt_int)) (by rw [if_neg (by simpa using neg)]; exact ds_next)) ?_
    by_cases dn : M.done s = true
    · rw [dn]
      refine ds_stop (ds_if (b := M.done s) (db_b (dt_call (da_cons (dt_var rfl) (da_cons (dt_var rfl) da_nil)) ⟨M, s, rfl, rfl⟩)) ?_)
      rw [if_pos dn]
      exact ds_ret dt_bl
    · rw [Bool.not_eq_true] at dn
      refine ds_seq (ds_if (b := M.done s) (db_b (dt_call (da_cons (dt_var rfl) (da_cons (dt_var rfl) da_nil)) ⟨M, s, rfl, rfl⟩)) (by rw [dn, if_neg Bool.false_ne_true]; exact ds_next)) ?_
      rw [dn]
      let mv : Nat → Nat × Nat := fun i => (M.mv s).getD i (0, 0)
      let p : Nat → Bool := fun i => (M.endsS s (mv i).1 (mv i).2).all (within hs (h - M.fee s (mv i).1))
      let n := ((M.mv s).map fun m => mvD m.1 m.2).length
      have len : n = (M.mv s).length := List.length_map _
      have any : (List.range n).any p = (M.mv s).any fun m => (M.endsS s m.1 m.2).all (within hs (h - M.fee s m.1)) := by
        rw [len]
        exact any_range (fun m => (M.endsS s m.1 m.2).all (within hs (h - M.fee s m.1))) (0, 0) (M.mv s)
      let f : Sl := [some (.dat (mapD T.C_Map M)), some (.dat (.dic (toD hs))), some (.dat (stD s)), some (.dat (.int h)), none, none]
      rw [← any]
      have step : ∀ i, i < n → mv i ∈ M.mv s ∧ nthD ((M.mv s).map fun m => mvD m.1 m.2) i = mvD (mv i).1 (mv i).2 := fun i hi => by
        rw [len] at hi
        refine ⟨?_, nth_map (fun m : Nat × Nat => mvD m.1 m.2) hi (0, 0)⟩
        show (M.mv s).getD i (0, 0) ∈ _
        rw [List.getD_eq_getElem?_getD, List.getElem?_eq_getElem hi]
        exact List.getElem_mem hi
      have loop : ∀ (t : TS), DS K t f [] (if (List.range n).any p = true then .rt (.dat (.bl true)) [] else .nx f []) → DS K (tSeq t (tRet (tC (.bl false)))) f [] (.rt (.dat (.bl (!false && (false || (List.range n).any p)))) []) := fun t ht => by
        cases q : (List.range n).any p with
        | true =>
          rw [q, if_pos rfl] at ht
          exact ds_stop ht
        | false =>
          rw [q, if_neg Bool.false_ne_true] at ht
          exact ds_seq ht (ds_ret dt_bl)
      refine loop _ (ds_search [4, 5] f rfl (di_list (dt_call (da_cons (dt_var rfl) (da_cons (dt_var rfl) da_nil)) ⟨M, s, rfl, inR hM hS, by rw [moves_eq]⟩)) p fun i hi => ?_)
      obtain ⟨mem, nth⟩ := step i hi
      rw [nth]
      refine ⟨fun yes => ds_seq (ss1 := (f.set 4 (some (.dat (mvD (mv i).1 (mv i).2)))).set 5 (some (.dat (.int (h - M.fee s (mv i).1))))) (m1 := []) (ds_set (dt_i0 (dt_var rfl) (dt_call (da_cons (dt_var rfl) (da_cons (dt_var rfl) (da_cons (dt_var rfl) da_nil))) ⟨M, s, (mv i).1, (mv i).2, rfl, feeOk hM hS mem, rfl⟩))) ?_,
        fun no => ⟨(f.set 4 (some (.dat (mvD (mv i).1 (mv i).2)))).set 5 (some (.dat (.int (h - M.fee s (mv i).1)))), ds_seq (ss1 := (f.set 4 (some (.dat (mvD (mv i).1 (mv i).2)))).set 5 (some (.dat (.int (h - M.fee s (mv i).1))))) (m1 := []) (ds_set (dt_i0 (dt_var rfl) (dt_call (da_cons (dt_var rfl) (da_cons (dt_var rfl) (da_cons (dt_var rfl) da_nil))) ⟨M, s, (mv i).1, (mv i).2, rfl, feeOk hM hS mem, rfl⟩))) ?_, rfl⟩⟩
      · refine ds_if (b := p i) (db_b (dt_call (da_cons (dt_var rfl) (da_cons (dt_call (da_cons (dt_var rfl) (da_cons (dt_var rfl) (da_cons (dt_var rfl) da_nil))) ⟨M, s, (mv i).1, (mv i).2, rfl, inM hM hS mem, by rw [ends_eq]⟩) (da_cons (dt_var rfl) da_nil))) ⟨hs, M.endsS s (mv i).1 (mv i).2, _, rfl, ends_len hS _ _, inn, rfl⟩)) ?_
        rw [yes, if_pos rfl]
        exact ds_ret dt_bl
      · refine ds_if (b := p i) (db_b (dt_call (da_cons (dt_var rfl) (da_cons (dt_call (da_cons (dt_var rfl) (da_cons (dt_var rfl) (da_cons (dt_var rfl) da_nil))) ⟨M, s, (mv i).1, (mv i).2, rfl, inM hM hS mem, by rw [ends_eq]⟩) (da_cons (dt_var rfl) da_nil))) ⟨hs, M.endsS s (mv i).1 (mv i).2, _, rfl, ends_len hS _ _, inn, rfl⟩)) ?_
        rw [no, if_neg Bool.false_ne_true]
        exact ds_next
end
end K2
end
section
set_option Elab.async false
set_option linter.all false
set_option maxRecDepth 100000
set_option maxHeartbeats 4000000
namespace K2
open PySem PySem.Spec PyProof.Rows L2 DL
def ofRow : List Int → StD
  | [p, i, w, l] => ⟨p, i, w, l⟩
  | _ => ⟨0, 0, 0, 0⟩
/-- all keys are states of the map -/
def Keyed (M : MapD) (hs : List (List Int × Int)) : Prop := ∀ p ∈ hs, (ofRow p.1).Ok M ∧ p.1 = (ofRow p.1).row
theorem row_in {M : MapD} {s : StD} (hM : M.Ok) (h : s.Ok M) : s.row ∈ rows4 := by
  unfold rows4
  refine List.mem_flatMap.mpr ⟨s.p.toNat, List.mem_range.mpr (by have := h.p1; have := hM.p5; omega), List.mem_flatMap.mpr ⟨s.i.toNat, List.mem_range.mpr (by have := h.i1; have := hM.m6; omega), List.mem_flatMap.mpr ⟨s.w.toNat, List.mem_range.mpr (by have := h.w1; have := hM.b2; omega),
    List.mem_map.mpr ⟨s.l.toNat, List.mem_range.mpr (by have := h.l1; omega), ?_⟩⟩⟩⟩
  show _ = [s.p, s.i, s.w, s.l]
  rw [Int.toNat_of_nonneg h.p0, Int.toNat_of_nonneg h.i0, Int.toNat_of_nonneg h.w0, Int.toNat_of_nonneg h.l0]
theorem keyed_in {M : MapD} {hs : List (List Int × Int)} (hM : M.Ok) (h : Keyed M hs) : ∀ p ∈ hs, p.1 ∈ rows4 := fun p hp => by
  rw [(h p hp).2]
  exact row_in hM (h p hp).1
theorem look_mem : ∀ {hs : List (List Int × Int)} {p : List Int × Int}, p ∈ hs → ∃ v, lookI hs p.1 = some v
  | q :: hs, p, h => by
    unfold lookI
    by_cases e : q.1 = p.1
    · exact ⟨_, if_pos e⟩
    · rw [if_neg e]
      exact look_mem ((List.mem_cons.mp h).resolve_left fun z => e (by rw [z]))
/-- what is said of each key, by place -/
theorem keys_all (hs : List (List Int × Int)) (g : List Int → Bool) : (List.range (toD hs).length).map (fun i => D.bl (g ((toD hs).getD i ([], .non)).1)) = (hs.map fun p => g p.1).map D.bl := by
  refine List.ext_getElem? fun i => ?_
  have e : (toD hs).length = hs.length := List.length_map _
  rw [e]
  simp only [List.getElem?_map]
  by_cases h : i < hs.length
  · rw [List.getElem?_range h, List.getElem?_eq_getElem h]
    show some (D.bl (g ((toD hs).getD i ([], .non)).1)) = some (D.bl (g hs[i].1))
    unfold toD
    rw [List.getD_eq_getElem?_getD, List.getElem?_map, List.getElem?_eq_getElem h]
    rfl
  · rw [List.getElem?_eq_none (by rw [List.length_range]; omega), List.getElem?_eq_none (by omega)]
    rfl
theorem key_nth {hs : List (List Int × Int)} {i : Nat} (h : i < (toD hs).length) : ∃ p ∈ hs, ((toD hs).getD i ([], .non)).1 = p.1 := by
  have e : (toD hs).length = hs.length := List.length_map _
  rw [e] at h
  refine ⟨hs[i], List.getElem_mem h, ?_⟩
  unfold toD
  rw [List.getD_eq_getElem?_getD, List.getElem?_map, List.getElem?_eq_getElem h]
  rfl
section
variable {P : Program} {w : World} {K : PySem.W.Frag} {mg : Str → Option Value} {base : Heap} {k : Nat}
def R_heights (C : Addr) (ds : List D) (d : D) : Prop := ∃ (M : MapD) (hs : List (List Int × Int)), ds = [mapD C M, .dic (toD hs)] ∧ M.Ok ∧ Keyed M hs ∧ hs.length ≤ 1000 ∧ d = .bl (hs.all fun p => heightOk M hs (ofRow p.1))
theorem ok_heights_hold (T : Txt K mg) : FnOk P w K mg base CX0 8 T.a_heights_hold T.fd_heights_hold ["chart", "heights"] (spP K 2 (R_heights T.C_Map)) := by
  refine fnP T.F_heights_hold sc_heights_hold rfl (fun cdv A outer s H E hr => ?_)
  refine ⟨_, (pss_one (ps_ret (pe_callB (crAll K) (by rfl) T.n_all (by decide +kernel) (pa_cons (pe_lk (pe_lc (own := [("state", 2)]) rfl sc_heights_hold.nd (pi_keys (pv 1)) (blkOk_by (own := [("state", 2)]) (N := ["chart", "heights", "state"]) (sc := defScope s_heights_hold) (by decide +kernel)) (fun _ _ _ _ _ => (pg_name (i := 2) sc_heights_hold.nd rfl (.inl rfl))) (fun _ _ _ _ _ => pts_nil) (fun _ _ _ _ _ => (pe_call (ok_height_holds T) (hr.mono (by decide)) (by rfl) T.g_height_holds T.F_height_holds.kp T.b_height_holds .nil pass0 (pa_cons (pv 0) (pa_cons (pv 1) (pa_cons (pv 2) pa_nil))))))) pa_nil)))), ?_⟩
  rintro ds d ⟨M, hs, rfl, hM, hk, few, rfl⟩ -
  refine .rt (ds_ret ?_)
  have key : (hs.all fun p => heightOk M hs (ofRow p.1)) = (hs.map fun p => (fun r => heightOk M hs (ofRow r)) p.1).all id := by rw [List.all_map]; rfl
  have len : (toD hs).length = hs.length := List.length_map _
  rw [key]
  refine dt_all ?_
  rw [← keys_all hs fun r => heightOk M hs (ofRow r)]
  refine dt_lk 1 (m := toD hs) rfl (fun i m z => ?_) (fun m z => nomatch z) (dt_lcMap (di_keys (i := 1) (m := toD hs) rfl) (fun i => .bl (heightOk M hs (ofRow ((toD hs).getD i ([], .non)).1))) (by omega) fun i hi => ⟨_, _, dg_name, by decide, ?_⟩)
  · match i with
    | 0 => exact nomatch z
    | 1 => exact nomatch z
    | 2 => exact nomatch z
    | n + 3 => exact nomatch z
  · obtain ⟨p, hp, e⟩ := key_nth hi
    obtain ⟨v, hv⟩ := look_mem hp
    obtain ⟨ok, er⟩ := hk p hp
    rw [e]
    refine dt_call (da_cons (dt_var rfl) (da_cons (dt_varLk (m := toD hs) rfl) (da_cons (dt_var rfl) da_nil))) ⟨M, hs, ofRow p.1, v, ?_, hM, ok, er ▸ hv, keyed_in hM hk, rfl⟩
    show [mapD T.C_Map M, D.dic (toD hs), rowD p.1] = [mapD T.C_Map M, D.dic (toD hs), rowD (ofRow p.1).row]
    rw [← er]
end
end K2
end
section
set_option Elab.async false
set_option linter.all false
set_option maxRecDepth 100000
set_option maxHeartbeats 4000000
namespace K2
open PySem PySem.Spec PyProof.Rows L2 DL
theorem dt_lcIfT {K : PySem.W.Frag} {ss : Sl} {mem m1 : List Mc} {te : TE} {wi : TI} {g : TG} {tt : TT} {vs : List Nat} {n : Nat} {it : Nat → D} (hi : DI K wi ss mem n it m1) (f : Nat → D) (p : Nat → Bool) (hn : n ≤ 16777216)
    (step : ∀ i, i < n → ∃ s1 ws, DG K g (wipeS ss vs) (it i) s1 ws ∧ (∀ w ∈ ws, w ∈ vs) ∧ DB K tt s1 m1 (p i) m1 ∧ (p i = true → DT K te s1 m1 (.dat (f i)) m1)) :
    DT K (tLc wi g tt te vs) ss mem (.tl (((List.range n).filter p).map f)) m1 := by
  have len : ∀ i, i < n → (((List.range i).filter p).map f).length < 16777216 := fun i h => by
    have := List.length_filter_le p (List.range i)
    rw [List.length_range] at this
    rw [List.length_map]
    omega
  exact dt_lcT (te := te) (tt := tt) (vs := vs) (g := g) hi (fun i => ((List.range i).filter p).map f) (fun _ => m1) rfl rfl len fun i h => by
    obtain ⟨s1, ws, a, b, c, d⟩ := step i h
    refine ⟨s1, ws, a, b, ?_⟩
    rw [List.range_succ, List.filter_append, List.map_append]
    cases q : p i with
    | true => exact .inl ⟨m1, f i, q ▸ c, d q, by simp [q]⟩
    | false => exact .inr ⟨q ▸ c, by simp [q]⟩
theorem pick_range {α : Type} (g : α → Option Int) (z : α) (l : List α) : ((List.range l.length).filter fun i => (g (l.getD i z)).isSome).map (fun i => D.int ((g (l.getD i z)).getD 0)) = (l.filterMap g).map D.int := by
  have all : (List.range l.length).map (fun i => l.getD i z) = l := by
    refine List.ext_getElem? fun i => ?_
    rw [List.getElem?_map]
    by_cases h : i < l.length
    · rw [List.getElem?_range h, List.getElem?_eq_getElem h, Option.map_some, List.getD_eq_getElem?_getD, List.getElem?_eq_getElem h]
      rfl
    · rw [List.getElem?_eq_none (by rw [List.length_range]; omega), List.getElem?_eq_none (by omega)]
      rfl
  have two : ∀ m : List α, (m.filter fun x => (g x).isSome).map (fun x => D.int ((g x).getD 0)) = (m.filterMap g).map D.int := fun m => by
    induction m with
    | nil => rfl
    | cons x m ih =>
      cases q : g x with
      | none => rw [List.filter_cons, List.filterMap_cons, q]; simpa using ih
      | some v => rw [List.filter_cons, List.filterMap_cons, q]; simpa [q] using ih
  rw [← two l]
  conv => rhs; rw [← all]
  rw [List.filter_map, List.map_map]
  rfl
def lookO (ls : List (List Int × Int)) : Option StD → Option Int
  | none => none
  | some s => lookI ls s.row
def top (ls : List (List Int × Int)) (es : List (Option StD)) : Int := (es.filterMap (lookO ls)).foldl max 0
theorem fold_max : ∀ (l : List Int) (a : Int), (l.foldl max a ∈ a :: l) ∧ ∀ y ∈ a :: l, y ≤ l.foldl max a
  | [], a => ⟨List.mem_cons_self, fun y h => by cases List.mem_singleton.mp h; exact Int.le_refl _⟩
  | b :: l, a => by
    obtain ⟨h1, h2⟩ := fold_max l (max a b)
    have hm : max a b ≤ l.foldl max (max a b) := h2 _ List.mem_cons_self
    refine ⟨?_, fun y hy => ?_⟩
    · show l.foldl max (max a b) ∈ _
      rcases List.mem_cons.mp h1 with z | z
      · rw [z]
        rcases Int.le_total a b with q | q
        · rw [Int.max_eq_right q]; exact List.mem_cons_of_mem _ List.mem_cons_self
        · rw [Int.max_eq_left q]; exact List.mem_cons_self
      · exact List.mem_cons_of_mem _ (List.mem_cons_of_mem _ z)
    · show y ≤ l.foldl max (max a b)
      rcases List.mem_cons.mp hy with z | z
      · have := Int.le_max_left a b; omega
      · rcases List.mem_cons.mp z with z | z
        · have := Int.le_max_right a b; omega
        · exact h2 y (List.mem_cons_of_mem _ z)
section
variable {P : Program} {w : World} {K : PySem.W.Frag} {mg : Str → Option Value} {base : Heap} {k : Nat}
def R_greatest (ds : List D) (d : D) : Prop := ∃ (ls : List (List Int × Int)) (es : List (Option StD)), ds = [.dic (toD ls), .lst (es.map stO)] ∧ es.length ≤ 5 ∧ (∀ p ∈ ls, p.1 ∈ rows4) ∧ d = .int (top ls es)
theorem ok_greatest_level (T : Txt K mg) : FnOk P w K mg base CX0 3 T.a_greatest_level T.fd_greatest_level ["levels", "ends"] (spP K 2 R_greatest) := by
  refine fnP T.F_greatest_level sc_greatest_level rfl (fun cdv A outer s H E hr => ?_)
  refine ⟨_, (pss_one (ps_ret (pe_callB (cr_max rfl) (by rfl) T.n_max (by decide +kernel) (pa_cons (pe_op op_cat (pe_lst (pa_cons pe_int pa_nil)) (pe_lc (own := [("end", 2)]) rfl sc_greatest_level.nd (piList K (pv 1)) (blkOk_by (own := [("end", 2)]) (N := ["levels", "ends", "end"]) (sc := defScope s_greatest_level) (by decide +kernel)) (fun _ _ _ _ _ => (pg_name (i := 2) sc_greatest_level.nd rfl (.inl rfl))) (fun _ _ _ _ _ => (pts_one (pt_cmp (pcDinZ P w (DL.rm1 hr) (pv 2) (pv 0))))) (fun _ _ _ _ _ => (pe_dget (DL.rm1 hr) (pv 0) (pv 2) (fun _ _ => rfl))))) pa_nil)))), ?_⟩
  rintro ds d ⟨ls, es, rfl, h5, inn, rfl⟩ -
  obtain ⟨f1, f2⟩ := fold_max (es.filterMap (lookO ls)) 0
  have e : (es.map stO).length = es.length := List.length_map _
  refine .rt (ds_ret (dt_maxL (ns := 0 :: es.filterMap (lookO ls)) ?_ f1 f2))
  rw [show (0 :: es.filterMap (lookO ls)).map D.int = .int 0 :: (es.filterMap (lookO ls)).map D.int from rfl, ← pick_range (lookO ls) none es]
  have few : (((List.range es.length).filter fun i => (lookO ls (es.getD i none)).isSome).map fun i => D.int ((lookO ls (es.getD i none)).getD 0)).length ≤ 5 := by
    have := List.length_filter_le (fun i => (lookO ls (es.getD i none)).isSome) (List.range es.length)
    rw [List.length_range] at this
    rw [List.length_map]
    omega
  refine dt_tl (dt_catT (ds := [.int 0]) (dt_lstT (da_cons dt_int da_nil)) ?_ (by show 1 + _ ≤ _; omega))
  rw [← e]
  refine dt_lcIfT (di_list (dt_var (i := 1) rfl)) _ _ (by omega) fun i hi => ⟨_, _, dg_name, by decide, ?_⟩
  rw [e] at hi
  rw [nth_map stO hi none]
  generalize es.getD i none = o
  cases o with
  | none => exact ⟨db_b (dt_noneIn (m := toD ls) (x := .dat (.dic (toD ls))) (dt_var rfl) (dt_var rfl) .dat fun p hp => by
      obtain ⟨q, hq, rfl⟩ := List.mem_map.mp hp
      exact rows4_none _ (inn q hq)), fun z => nomatch z⟩
  | some s =>
    have din := dt_dinZ (P := P) (w := w) (k := s.row) (m := toD ls) (x := .dat (.dic (toD ls))) (ss := [some (.dat (.dic (toD ls))), some (.dat (.lst (es.map stO))), some (.dat (stD s))]) (mem := []) (dt_var (K := K) (i := 2) rfl) (dt_var (i := 0) rfl) .dat
    rw [getI_toD, Option.isSome_map] at din
    refine ⟨db_b din, fun z => ?_⟩
    obtain ⟨v, hv⟩ := Option.isSome_iff_exists.mp z
    have hv' : lookI ls s.row = some v := hv
    show DT K _ _ _ (.dat (.int ((lookI ls s.row).getD 0))) _
    rw [hv']
    exact dt_dget (k := s.row) (d := .int v) (m := toD ls) (x := .dat (.dic (toD ls))) (dt_var rfl) (dt_var rfl) .dat (by rw [getI_toD, hv']; rfl)
end
end K2
end
section
set_option Elab.async false
set_option linter.all false
set_option maxRecDepth 100000
set_option maxHeartbeats 4000000
namespace K2
open PySem PySem.Spec PyProof.Rows L2 DL
section
variable {K : PySem.W.Frag} {ss : Sl} {mem m1 m2 : List Mc} {ta tb : TE}
theorem flat_stO (o : Option StD) : D.flat 2 (stO o) = true := by
  cases o <;> rfl
theorem flat_stOs : ∀ es : List (Option StD), D.flat 3 (.lst (es.map stO)) = true := fun es => by
  show D.flatAll 2 (es.map stO) = true
  induction es with
  | nil => rfl
  | cons e es ih =>
    show (D.flat 2 (stO e) && D.flatAll 2 (es.map stO)) = true
    rw [flat_stO, ih]
    rfl
theorem none_any : ∀ es : List (Option StD), ((D.pyAll (es.map stO)).any fun z => PyData.eqv z D.non.py) = es.any Option.isNone
  | [] => rfl
  | none :: es => by
    show (PyData.eqv D.non.py D.non.py || _) = (true || _)
    rw [show PyData.eqv D.non.py D.non.py = true from eqv_self (n := 0) (d := .non) rfl]
    rfl
  | some s :: es => by
    show (PyData.eqv (stD s).py D.non.py || (D.pyAll (es.map stO)).any fun z => PyData.eqv z D.non.py) = (false || es.any Option.isNone)
    rw [none_any es]
    rfl
/-- None not in the results -/
theorem dt_noneNotIn {es : List (Option StD)} (ha : DT K ta ss mem (.dat .non) m1) (hb : DT K tb ss m1 (.dat (.lst (es.map stO))) m2) : DT K (tOp (rNotInD K) ta tb) ss mem (.dat (.bl (!es.any Option.isNone))) m2 :=
  dt_op ha hb fun B H al σ v w Q S hv hw k => by
    have h2 := Rep.dp S.sub 3 (.lst (es.map stO)) hw (flat_stOs es)
    have h3 := flat_shaped (flat_stOs es) (by decide)
    rw [D.py] at h2 h3
    refine ⟨D.non.py, D.pyAll (es.map stO), Rep.dp S.sub 0 .non hv rfl, h2, flat_shaped (n := 0) (d := .non) rfl (by decide), h3, ?_⟩
    rw [none_any]
    exact k _ _ _ _ (Stp.refl _ _ _) S (.bl _)
end
def cheaper (M : MapD) (ls : List (List Int × Int)) (s : StD) (v : Int) (m : Nat × Nat) : Bool := !(M.endsS s m.1 m.2).any Option.isNone && decide (M.fee s m.1 + top ls (M.endsS s m.1 m.2) < v)
def levelOk (M : MapD) (ls : List (List Int × Int)) (s : StD) : Bool := !M.done s && !(M.mv s).any (cheaper M ls s ((lookI ls s.row).getD 0))
section
variable {P : Program} {w : World} {K : PySem.W.Frag} {mg : Str → Option Value} {base : Heap} {k : Nat}
def R_level (C : Addr) (ds : List D) (d : D) : Prop := ∃ (M : MapD) (ls : List (List Int × Int)) (s : StD) (v : Int), ds = [mapD C M, .dic (toD ls), stD s] ∧ M.Ok ∧ s.Ok M ∧ lookI ls s.row = some v ∧ (∀ p ∈ ls, p.1 ∈ rows4) ∧ d = .bl (levelOk M ls s)
theorem ok_level_holds (T : Txt K mg) : FnOk P w K mg base CX0 6 T.a_level_holds T.fd_level_holds ["chart", "levels", "state"] (spP K 3 (R_level T.C_Map)) := by
  refine fnP T.F_level_holds sc_level_holds rfl (fun cdv A outer s H E hr => ?_)
  refine ⟨_, (pss_cons (ps_if (pt_val (pe_call (ok_is_done T) (hr.mono (by decide)) (by rfl) T.g_is_done T.F_is_done.kp T.b_is_done .nil pass0 (pa_cons (pv 0) (pa_cons (pv 2) pa_nil)))) (pss_one (ps_ret pe_bl)) pss_nil)
  (pss_cons (ps_for PassesOwn.never rfl (piList K (pe_call (ok_possible_moves T) (hr.mono (by decide)) (by rfl) T.g_possible_moves T.F_possible_moves.kp T.b_possible_moves .nil pass0 (pa_cons (pv 0) (pa_cons (pv 2) pa_nil)))) (pg_name (i := 3) sc_level_holds.nd rfl (.inl rfl)) (pss_cons (ps_set (i := 4) sc_level_holds.nd rfl (.inl rfl) (pe_call (ok_move_results T) (hr.mono (by decide)) (by rfl) T.g_move_results T.F_move_results.kp T.b_move_results .nil pass0 (pa_cons (pv 0) (pa_cons (pv 2) (pa_cons (pv 3) pa_nil)))))
  (pss_cons (ps_set (i := 5) sc_level_holds.nd rfl (.inl rfl) (pe_op op_add (pe_call (ok_move_cost T) (hr.mono (by decide)) (by rfl) T.g_move_cost T.F_move_cost.kp T.b_move_cost .nil pass0 (pa_cons (pv 0) (pa_cons (pv 2) (pa_cons (pv 3) pa_nil)))) (pe_call (ok_greatest_level T) (hr.mono (by decide)) (by rfl) T.g_greatest_level T.F_greatest_level.kp T.b_greatest_level .nil pass0 (pa_cons (pv 1) (pa_cons (pv 4) pa_nil)))))
  (pss_one (ps_if (PW.pt (pw_and (pt_cmpR (opNotInD K (DL.room_in hr)) pe_non (pv 4) (by rfl)) (pw_and1 (pt_cmpR op_lt (pv 5) (pe_dget (DL.rm1 hr) (pv 1) (pv 2) (fun _ _ => rfl)) (nomark _))))) (pss_one (ps_ret pe_bl)) pss_nil)))))
  (pss_one (ps_ret pe_bl)))), ?_⟩
  rintro ds d ⟨M, ls, s, v, rfl, hM, hS, look, inn, rfl⟩ -
  have look' : getI (toD ls) s.row = some (.int v) := by rw [getI_toD, look]; rfl
  unfold levelOk
  simp only [look, Option.getD_some]
  by_cases dn : M.done s = true
  · rw [dn]
    refine .rt (ds_stop (ds_if (b := M.done s) (db_b (dt_call (da_cons (dt_var rfl) (da_cons (dt_var rfl) da_nil)) ⟨M, s, rfl, rfl⟩)) ?_))
    rw [if_pos dn]
    exact ds_ret dt_bl
  · rw [Bool.not_eq_true] at dn
    refine .rt (ds_seq (ds_if (b := M.done s) (db_b (dt_call (da_cons (dt_var rfl) (da_cons (dt_var rfl) da_nil)) ⟨M, s, rfl, rfl⟩)) (by rw [dn, if_neg Bool.false_ne_true]; exact ds_next)) ?_)
    rw [dn]
    let mv : Nat → Nat × Nat := fun i => (M.mv s).getD i (0, 0)
    let p : Nat → Bool := fun i => cheaper M ls s v (mv i)
    let n := ((M.mv s).map fun m => mvD m.1 m.2).length
    have len : n = (M.mv s).length := List.length_map _
    have any : (List.range n).any p = (M.mv s).any (cheaper M ls s v) := by
      rw [len]
      exact any_range (cheaper M ls s v) (0, 0) (M.mv s)
    let f : Sl := [some (.dat (mapD T.C_Map M)), some (.dat (.dic (toD ls))), some (.dat (stD s)), none, none, none]
    rw [← any]
    have step : ∀ i, i < n → mv i ∈ M.mv s ∧ nthD ((M.mv s).map fun m => mvD m.1 m.2) i = mvD (mv i).1 (mv i).2 := fun i hi => by
      rw [len] at hi
      refine ⟨?_, nth_map (fun m : Nat × Nat => mvD m.1 m.2) hi (0, 0)⟩
      show (M.mv s).getD i (0, 0) ∈ _
      rw [List.getD_eq_getElem?_getD, List.getElem?_eq_getElem hi]
      exact List.getElem_mem hi
    have loop : ∀ (t : TS), DS K t f [] (if (List.range n).any p = true then .rt (.dat (.bl false)) [] else .nx f []) → DS K (tSeq t (tRet (tC (.bl true)))) f [] (.rt (.dat (.bl (!false && !(List.range n).any p))) []) := fun t ht => by
      cases q : (List.range n).any p with
      | true =>
        rw [q, if_pos rfl] at ht
        exact ds_stop ht
      | false =>
        rw [q, if_neg Bool.false_ne_true] at ht
        exact ds_seq ht (ds_ret dt_bl)
    refine loop _ (ds_search [3, 4, 5] f rfl (di_list (dt_call (da_cons (dt_var rfl) (da_cons (dt_var rfl) da_nil)) ⟨M, s, rfl, inR hM hS, by rw [moves_eq]⟩)) p fun i hi => ?_)
    obtain ⟨mem, nth⟩ := step i hi
    rw [nth]
    let es := M.endsS s (mv i).1 (mv i).2
    let need := M.fee s (mv i).1 + top ls es
    let s1 : Sl := (f.set 3 (some (.dat (mvD (mv i).1 (mv i).2)))).set 4 (some (.dat (.lst (es.map stO))))
    let s2 : Sl := s1.set 5 (some (.dat (.int need)))
    have pi : p i = (!es.any Option.isNone && decide (need < v)) := rfl
    have body : ∀ (t1 t2 t3 : TS) (out : Out), DS K t1 (f.set 3 (some (.dat (mvD (mv i).1 (mv i).2)))) [] (.nx s1 []) → DS K t2 s1 [] (.nx s2 []) → DS K t3 s2 [] out → DS K (tSeq t1 (tSeq t2 t3)) (f.set 3 (some (.dat (mvD (mv i).1 (mv i).2)))) [] out := fun _ _ _ _ a b c => ds_seq a (ds_seq b c)
    have h1 := fun (q : M.ends s (mv i).1 (mv i).2 = (M.endsS s (mv i).1 (mv i).2).map stO) => q
    refine ⟨fun yes => body _ _ _ _ (ds_set (dt_call (da_cons (dt_var rfl) (da_cons (dt_var rfl) (da_cons (dt_var rfl) da_nil))) ⟨M, s, (mv i).1, (mv i).2, rfl, inM hM hS mem, by rw [ends_eq]⟩))
        (ds_set (dt_i0 (dt_call (da_cons (dt_var rfl) (da_cons (dt_var rfl) (da_cons (dt_var rfl) da_nil))) ⟨M, s, (mv i).1, (mv i).2, rfl, feeOk hM hS mem, rfl⟩) (dt_call (da_cons (dt_var rfl) (da_cons (dt_var rfl) da_nil)) ⟨ls, es, rfl, ends_len hS _ _, inn, rfl⟩))) ?_,
      fun no => ⟨s2, body _ _ _ _ (ds_set (dt_call (da_cons (dt_var rfl) (da_cons (dt_var rfl) (da_cons (dt_var rfl) da_nil))) ⟨M, s, (mv i).1, (mv i).2, rfl, inM hM hS mem, by rw [ends_eq]⟩))
        (ds_set (dt_i0 (dt_call (da_cons (dt_var rfl) (da_cons (dt_var rfl) (da_cons (dt_var rfl) da_nil))) ⟨M, s, (mv i).1, (mv i).2, rfl, feeOk hM hS mem, rfl⟩) (dt_call (da_cons (dt_var rfl) (da_cons (dt_var rfl) da_nil)) ⟨ls, es, rfl, ends_len hS _ _, inn, rfl⟩))) ?_, rfl⟩⟩
    · refine ds_if (b := !es.any Option.isNone && decide (need < v)) (db_and (db_test (dt_noneNotIn dt_non (dt_var rfl))) fun _ => db_test (dt_i0b (dt_var rfl) (dt_dget (k := s.row) (d := .int v) (m := toD ls) (x := .dat (.dic (toD ls))) (dt_var rfl) (dt_var rfl) .dat look'))) ?_
      rw [show (!es.any Option.isNone && decide (need < v)) = true from yes, if_pos rfl]
      exact ds_ret dt_bl
    · refine ds_if (b := !es.any Option.isNone && decide (need < v)) (db_and (db_test (dt_noneNotIn dt_non (dt_var rfl))) fun _ => db_test (dt_i0b (dt_var rfl) (dt_dget (k := s.row) (d := .int v) (m := toD ls) (x := .dat (.dic (toD ls))) (dt_var rfl) (dt_var rfl) .dat look'))) ?_
      rw [show (!es.any Option.isNone && decide (need < v)) = false from no, if_neg Bool.false_ne_true]
      exact ds_next
end
end K2
end
section
set_option Elab.async false
set_option linter.all false
set_option maxRecDepth 100000
set_option maxHeartbeats 4000000
namespace K2
open PySem PySem.Spec PyProof.Rows L2 DL
theorem all_range {α : Type} (p : α → Bool) (z : α) (l : List α) : (List.range l.length).all (fun i => p (l.getD i z)) = l.all p := by
  have h := any_range (fun x => !p x) z l
  rw [List.all_eq_not_any_not, List.all_eq_not_any_not, h]
def levelPos (ls : List (List Int × Int)) (r : List Int) : Bool := decide ((lookI ls r).getD 0 > 0)
section
variable {P : Program} {w : World} {K : PySem.W.Frag} {mg : Str → Option Value} {base : Heap} {k : Nat}
def R_levels (C : Addr) (ds : List D) (d : D) : Prop := ∃ (M : MapD) (ls : List (List Int × Int)), ds = [mapD C M, .dic (toD ls)] ∧ M.Ok ∧ Keyed M ls ∧ ls.length ≤ 1000 ∧ d = .bl (ls.all fun p => !levelPos ls p.1 || levelOk M ls (ofRow p.1))
theorem ok_levels_hold (T : Txt K mg) : FnOk P w K mg base CX0 8 T.a_levels_hold T.fd_levels_hold ["chart", "levels"] (spP K 2 (R_levels T.C_Map)) := by
  refine fnP T.F_levels_hold sc_levels_hold rfl (fun cdv A outer s H E hr => ?_)
  refine ⟨_, (pss_one (ps_ret (pe_callB (crAll K) (by rfl) T.n_all (by decide +kernel) (pa_cons (pe_lk (pe_lc (own := [("state", 2)]) rfl sc_levels_hold.nd (pi_keys (pv 1)) (blkOk_by (own := [("state", 2)]) (N := ["chart", "levels", "state"]) (sc := defScope s_levels_hold) (by decide +kernel)) (fun _ _ _ _ _ => (pg_name (i := 2) sc_levels_hold.nd rfl (.inl rfl))) (fun _ _ _ _ _ => (pts_one (pt_cmpR op_gt (pe_dget (DL.rm1 hr) (pv 1) (pv 2) (fun _ _ => rfl)) pe_int (nomark _)))) (fun _ _ _ _ _ => (pe_call (ok_level_holds T) (hr.mono (by decide)) (by rfl) T.g_level_holds T.F_level_holds.kp T.b_level_holds .nil pass0 (pa_cons (pv 0) (pa_cons (pv 1) (pa_cons (pv 2) pa_nil))))))) pa_nil)))), ?_⟩
  rintro ds d ⟨M, ls, rfl, hM, hk, few, rfl⟩ -
  refine .rt (ds_ret ?_)
  have len : (toD ls).length = ls.length := List.length_map _
  let row : Nat → List Int := fun i => ((toD ls).getD i ([], .non)).1
  let yes : Nat → Bool := fun i => levelPos ls (row i)
  let good : Nat → Bool := fun i => levelOk M ls (ofRow (row i))
  have key : (ls.all fun p => !levelPos ls p.1 || levelOk M ls (ofRow p.1)) = (((List.range (toD ls).length).filter yes).map good).all id := by
    rw [List.all_map, List.all_filter]
    have a := all_range (fun q : List Int × D => !levelPos ls q.1 || levelOk M ls (ofRow q.1)) ([], .non) (toD ls)
    refine Eq.trans ?_ a.symm
    unfold toD
    rw [List.all_map]
    rfl
  rw [key]
  refine dt_all ?_
  rw [List.map_map]
  refine dt_lk 1 (m := toD ls) rfl (fun i m z => ?_) (fun m z => nomatch z) (dt_lcIf (di_keys (i := 1) (m := toD ls) rfl) (fun i => .bl (good i)) yes (by omega) fun i hi => ⟨_, _, dg_name, by decide, ?_⟩)
  · match i with
    | 0 => exact nomatch z
    | 1 => exact nomatch z
    | 2 => exact nomatch z
    | n + 3 => exact nomatch z
  · obtain ⟨p, hp, e⟩ := key_nth hi
    obtain ⟨v, hv⟩ := look_mem hp
    obtain ⟨ok, er⟩ := hk p hp
    have ey : yes i = decide (v > 0) := by
      show decide ((lookI ls (row i)).getD 0 > 0) = _
      rw [show row i = p.1 from e, hv]
      rfl
    rw [ey, e]
    refine ⟨db_test (dt_i0b (dt_dget (k := p.1) (d := .int v) (m := toD ls) (x := .lk (toD ls)) (dt_var rfl) (dt_var rfl) .lk (by rw [getI_toD, hv]; rfl)) dt_int), fun _ => ?_⟩
    have eg : good i = levelOk M ls (ofRow p.1) := by
      show levelOk M ls (ofRow (row i)) = _
      rw [show row i = p.1 from e]
    rw [eg]
    refine dt_call (da_cons (dt_var rfl) (da_cons (dt_varLk (m := toD ls) rfl) (da_cons (dt_var rfl) da_nil))) ⟨M, ls, ofRow p.1, v, ?_, hM, ok, er ▸ hv, keyed_in hM hk, rfl⟩
    show [mapD T.C_Map M, D.dic (toD ls), rowD p.1] = [mapD T.C_Map M, D.dic (toD ls), rowD (ofRow p.1).row]
    rw [← er]
end
end K2
end
section
set_option Elab.async false
set_option linter.all false
set_option maxRecDepth 100000
set_option maxHeartbeats 4000000
namespace K2
open PySem PySem.Spec PyProof.Rows L2 DL
def caught (has : List Int → Bool) : Option StD → Bool
  | none => true
  | some s => has s.row
def spoilOk (M : MapD) (has : List Int → Bool) (s : StD) : Bool := !M.done s && !(M.mv s).any fun m => !(M.endsS s m.1 m.2).any (caught has)
section
variable {P : Program} {w : World} {K : PySem.W.Frag} {mg : Str → Option Value} {base : Heap} {k : Nat}
def R_spoils (C : Addr) (ds : List D) (d : D) : Prop := ∃ (M : MapD) (m : List (List Int × D)) (s : StD), ds = [mapD C M, .dic m, stD s] ∧ M.Ok ∧ s.Ok M ∧ d = .bl (spoilOk M (fun r => (getI m r).isSome) s)
theorem ok_state_spoils (T : Txt K mg) : FnOk P w K mg base CX0 6 T.a_state_spoils T.fd_state_spoils ["chart", "held", "state"] (spP K 3 (R_spoils T.C_Map)) := by
  refine fnP T.F_state_spoils sc_state_spoils rfl (fun cdv A outer s H E hr => ?_)
  refine ⟨_, (pss_cons (ps_if (pt_val (pe_call (ok_is_done T) (hr.mono (by decide)) (by rfl) T.g_is_done T.F_is_done.kp T.b_is_done .nil pass0 (pa_cons (pv 0) (pa_cons (pv 2) pa_nil)))) (pss_one (ps_ret pe_bl)) pss_nil)
  (pss_cons (ps_for PassesOwn.never rfl (piList K (pe_call (ok_possible_moves T) (hr.mono (by decide)) (by rfl) T.g_possible_moves T.F_possible_moves.kp T.b_possible_moves .nil pass0 (pa_cons (pv 0) (pa_cons (pv 2) pa_nil)))) (pg_name (i := 3) sc_state_spoils.nd rfl (.inl rfl)) (pss_cons (ps_set (i := 4) sc_state_spoils.nd rfl (.inl rfl) (pe_call (ok_move_results T) (hr.mono (by decide)) (by rfl) T.g_move_results T.F_move_results.kp T.b_move_results .nil pass0 (pa_cons (pv 0) (pa_cons (pv 2) (pa_cons (pv 3) pa_nil)))))
  (pss_one (ps_if (pt_not (pt_val (pe_callB (crAny K) (by rfl) T.n_any (by decide +kernel) (pa_cons (pe_lc (own := [("end", 5)]) rfl sc_state_spoils.nd (piList K (pv 4)) (blkOk_by (own := [("end", 5)]) (N := ["chart", "held", "state", "move", "ends", "end"]) (sc := defScope s_state_spoils) (by decide +kernel)) (fun _ _ _ _ _ => (pg_name (i := 5) sc_state_spoils.nd rfl (.inl rfl))) (fun _ _ _ _ _ => pts_nil) (fun _ _ _ _ _ => (pe_or (pe_cmp (pc_isN (pv 5)) rfl) (pe_one (pe_cmp (pc_din (DL.rm1 hr) (pv 5) (pv 1)) rfl))))) pa_nil)))) (pss_one (ps_ret pe_bl)) pss_nil))))
  (pss_one (ps_ret pe_bl)))), ?_⟩
  rintro ds d ⟨M, m, s, rfl, hM, hS, rfl⟩ -
  let has : List Int → Bool := fun r => (getI m r).isSome
  show Ends1 K _ _ _ (.bl (spoilOk M has s)) _
  unfold spoilOk
  by_cases dn : M.done s = true
  · rw [dn]
    refine .rt (ds_stop (ds_if (b := M.done s) (db_b (dt_call (da_cons (dt_var rfl) (da_cons (dt_var rfl) da_nil)) ⟨M, s, rfl, rfl⟩)) ?_))
    rw [if_pos dn]
    exact ds_ret dt_bl
  · rw [Bool.not_eq_true] at dn
    refine .rt (ds_seq (ds_if (b := M.done s) (db_b (dt_call (da_cons (dt_var rfl) (da_cons (dt_var rfl) da_nil)) ⟨M, s, rfl, rfl⟩)) (by rw [dn, if_neg Bool.false_ne_true]; exact ds_next)) ?_)
    rw [dn]
    let q : Nat × Nat → Bool := fun m => !(M.endsS s m.1 m.2).any (caught has)
    let mv : Nat → Nat × Nat := fun i => (M.mv s).getD i (0, 0)
    let p : Nat → Bool := fun i => q (mv i)
    let n := ((M.mv s).map fun m => mvD m.1 m.2).length
    have len : n = (M.mv s).length := List.length_map _
    have any : (List.range n).any p = (M.mv s).any q := by
      rw [len]
      exact any_range q (0, 0) (M.mv s)
    let f : Sl := [some (.dat (mapD T.C_Map M)), some (.dat (.dic m)), some (.dat (stD s)), none, none, none]
    show DS K _ _ _ (.rt (.dat (.bl (!false && !(M.mv s).any q))) [])
    rw [← any]
    have step : ∀ i, i < n → mv i ∈ M.mv s ∧ nthD ((M.mv s).map fun m => mvD m.1 m.2) i = mvD (mv i).1 (mv i).2 := fun i hi => by
      rw [len] at hi
      refine ⟨?_, nth_map (fun m : Nat × Nat => mvD m.1 m.2) hi (0, 0)⟩
      show (M.mv s).getD i (0, 0) ∈ _
      rw [List.getD_eq_getElem?_getD, List.getElem?_eq_getElem hi]
      exact List.getElem_mem hi
    have loop : ∀ (t : TS), DS K t f [] (if (List.range n).any p = true then .rt (.dat (.bl false)) [] else .nx f []) → DS K (tSeq t (tRet (tC (.bl true)))) f [] (.rt (.dat (.bl (!false && !(List.range n).any p))) []) := fun t ht => by
      cases z : (List.range n).any p with
      | true =>
        rw [z, if_pos rfl] at ht
        exact ds_stop ht
      | false =>
        rw [z, if_neg Bool.false_ne_true] at ht
        exact ds_seq ht (ds_ret dt_bl)
    refine loop _ (ds_search [3, 4] f rfl (di_list (dt_call (da_cons (dt_var rfl) (da_cons (dt_var rfl) da_nil)) ⟨M, s, rfl, inR hM hS, by rw [moves_eq]⟩)) p fun i hi => ?_)
    obtain ⟨mem, nth⟩ := step i hi
    rw [nth]
    let es := M.endsS s (mv i).1 (mv i).2
    let s1 : Sl := (f.set 3 (some (.dat (mvD (mv i).1 (mv i).2)))).set 4 (some (.dat (.lst (es.map stO))))
    have h5 : es.length ≤ 5 := ends_len hS _ _
    have e : (es.map stO).length = es.length := List.length_map _
    have all : (List.range (es.map stO).length).map (fun i => D.bl (caught has (es.getD i none))) = (es.map (caught has)).map D.bl := by
      refine List.ext_getElem? fun i => ?_
      rw [e]
      simp only [List.getElem?_map]
      by_cases h : i < es.length
      · rw [List.getElem?_range h, List.getElem?_eq_getElem h]
        show some (D.bl (caught has (es.getD i none))) = some (D.bl (caught has es[i]))
        rw [List.getD_eq_getElem?_getD, List.getElem?_eq_getElem h]
        rfl
      · rw [List.getElem?_eq_none (by rw [List.length_range]; omega), List.getElem?_eq_none (by omega)]
        rfl
    have key : es.any (caught has) = (es.map (caught has)).any id := by rw [List.any_map]; rfl
    have body : ∀ (t1 t2 : TS) (out : Out), DS K t1 (f.set 3 (some (.dat (mvD (mv i).1 (mv i).2)))) [] (.nx s1 []) → DS K t2 s1 [] out → DS K (tSeq t1 t2) (f.set 3 (some (.dat (mvD (mv i).1 (mv i).2)))) [] out := fun _ _ _ a b => ds_seq a b
    refine ⟨fun yes => ?_, fun no => ⟨s1, ?_, rfl⟩⟩
    · refine body _ _ _ (ds_set (dt_call (da_cons (dt_var rfl) (da_cons (dt_var rfl) (da_cons (dt_var rfl) da_nil))) ⟨M, s, (mv i).1, (mv i).2, rfl, inM hM hS mem, by rw [ends_eq]⟩)) (ds_if (m1 := []) (b := !es.any (caught has)) (db_not (db_b ?_)) ?_)
      · rw [key]
        refine dt_any ?_
        rw [← all]
        refine dt_lcMap (di_list (dt_var (i := 4) rfl)) (fun i => .bl (caught has (es.getD i none))) (by omega) fun i hi => ⟨_, _, dg_name, by decide, ?_⟩
        rw [e] at hi
        rw [nth_map stO hi none]
        generalize es.getD i none = o
        cases o with
        | none => exact dt_orV_t (dt_isN (d := .non) (dt_var rfl))
        | some z => exact dt_orV_f (dt_isN (d := stD z) (dt_var rfl)) (dt_din (k := z.row) (m := m) (x := .dat (.dic m)) (dt_var rfl) (dt_var rfl) .dat)
      · rw [show (!es.any (caught has)) = true from yes, if_pos rfl]
        exact ds_ret dt_bl
    · refine body _ _ _ (ds_set (dt_call (da_cons (dt_var rfl) (da_cons (dt_var rfl) (da_cons (dt_var rfl) da_nil))) ⟨M, s, (mv i).1, (mv i).2, rfl, inM hM hS mem, by rw [ends_eq]⟩)) (ds_if (m1 := []) (b := !es.any (caught has)) (db_not (db_b ?_)) ?_)
      · rw [key]
        refine dt_any ?_
        rw [← all]
        refine dt_lcMap (di_list (dt_var (i := 4) rfl)) (fun i => .bl (caught has (es.getD i none))) (by omega) fun i hi => ⟨_, _, dg_name, by decide, ?_⟩
        rw [e] at hi
        rw [nth_map stO hi none]
        generalize es.getD i none = o
        cases o with
        | none => exact dt_orV_t (dt_isN (d := .non) (dt_var rfl))
        | some z => exact dt_orV_f (dt_isN (d := stD z) (dt_var rfl)) (dt_din (k := z.row) (m := m) (x := .dat (.dic m)) (dt_var rfl) (dt_var rfl) .dat)
      · rw [show (!es.any (caught has)) = false from no, if_neg Bool.false_ne_true]
        exact ds_next
end
end K2
end
section
set_option Elab.async false
set_option linter.all false
set_option maxRecDepth 100000
set_option maxHeartbeats 4000000
namespace K2
open PySem PySem.Spec PyProof.Rows L2 DL
/-- the dict of the rows -/
def heldOf (rows : List (List Int)) : List (List Int × D) := rows.foldl (fun m r => putI m r (.bl true)) []
theorem held_keys : ∀ (rows : List (List Int)) (m : List (List Int × D)), ∀ p ∈ rows.foldl (fun m r => putI m r (.bl true)) m, p.1 ∈ rows ∨ p.1 ∈ m.map (·.1)
  | [], m, p, h => .inr (List.mem_map_of_mem h)
  | r :: rows, m, p, h => by
    rcases held_keys rows (putI m r (.bl true)) p h with z | z
    · exact .inl (List.mem_cons_of_mem _ z)
    · unfold putI at z
      split at z
      · rw [List.map_map] at z
        obtain ⟨q, hq, e⟩ := List.mem_map.mp z
        refine .inr (List.mem_map.mpr ⟨q, hq, ?_⟩)
        rw [← e]
        show q.1 = (if q.1 = r then (q.1, D.bl true) else q).1
        split <;> rfl
      · rw [List.map_append, List.mem_append] at z
        rcases z with z | z
        · exact .inr z
        · exact .inl (by rw [List.mem_singleton.mp z]; exact List.mem_cons_self)
theorem held_len : ∀ (rows : List (List Int)) (m : List (List Int × D)), (rows.foldl (fun m r => putI m r (.bl true)) m).length ≤ m.length + rows.length
  | [], m => Nat.le_refl _
  | r :: rows, m => by
    have h := held_len rows (putI m r (.bl true))
    have one : (putI m r (.bl true)).length ≤ m.length + 1 := by
      unfold putI
      split <;> simp
    show (rows.foldl _ (putI m r (.bl true))).length ≤ m.length + (rows.length + 1)
    omega
section
variable {P : Program} {w : World} {K : PySem.W.Frag} {mg : Str → Option Value} {base : Heap} {k : Nat}
def shut (M : MapD) (m : List (List Int × D)) : Bool := m.all fun p => spoilOk M (fun r => (getI m r).isSome) (ofRow p.1)
def R_states (C : Addr) (ds : List D) (d : D) : Prop := ∃ (M : MapD) (rows : List (List Int)), ds = [mapD C M, .lst (rows.map rowD)] ∧ M.Ok ∧ (∀ r ∈ rows, (ofRow r).Ok M ∧ r = (ofRow r).row) ∧ rows.length ≤ 1000 ∧ d = .bl (shut M (heldOf rows))
theorem ok_states_spoil (T : Txt K mg) : FnOk P w K mg base CX0 8 T.a_states_spoil T.fd_states_spoil ["chart", "states"] (spP K 2 (R_states T.C_Map)) := by
  refine fnP T.F_states_spoil sc_states_spoil rfl (fun cdv A outer s H E hr => ?_)
  refine ⟨_, (pss_cons (ps_set (i := 2) sc_states_spoil.nd rfl (.inr rfl) (pe_dcT (own := [("state", 3)]) rfl sc_states_spoil.nd hr.units0 (piList K (pv 1)) (blkOk_by (own := [("state", 3)]) (N := ["chart", "states", "held", "state"]) (sc := defScope s_states_spoil) (by decide +kernel)) (fun _ _ _ _ _ => ⟨(pg_name (i := 3) sc_states_spoil.nd rfl (.inl rfl)), pts_nil, (pv 3), pe_bl⟩)))
  (pss_one (ps_ret (pe_callB (crAll K) (by rfl) T.n_all (by decide +kernel) (pa_cons (pe_lk (pe_lc (own := [("state", 3)]) rfl sc_states_spoil.nd (pi_keys (pv 2)) (blkOk_by (own := [("state", 3)]) (N := ["chart", "states", "held", "state"]) (sc := defScope s_states_spoil) (by decide +kernel)) (fun _ _ _ _ _ => (pg_name (i := 3) sc_states_spoil.nd rfl (.inl rfl))) (fun _ _ _ _ _ => pts_nil) (fun _ _ _ _ _ => (pe_call (ok_state_spoils T) (hr.mono (by decide)) (by rfl) T.g_state_spoils T.F_state_spoils.kp T.b_state_spoils .nil pass0 (pa_cons (pv 0) (pa_cons (pv 2) (pa_cons (pv 3) pa_nil))))))) pa_nil))))), ?_⟩
  rintro ds d ⟨M, rows, rfl, hM, hk, few, rfl⟩ -
  have len : (rows.map rowD).length = rows.length := List.length_map _
  let acc : Nat → List (List Int × D) := fun i => heldOf (rows.take i)
  have full : acc (rows.map rowD).length = heldOf rows := by
    show heldOf (rows.take _) = _
    rw [len, List.take_length]
  have grow : ∀ i, i < (rows.map rowD).length → acc (i + 1) = putI (acc i) (rows.getD i []) (.bl true) := fun i hi => by
    rw [len] at hi
    show (rows.take (i + 1)).foldl _ [] = putI ((rows.take i).foldl _ []) _ _
    rw [List.take_add_one, List.getElem?_eq_getElem hi, List.foldl_append, List.getD_eq_getElem?_getD, List.getElem?_eq_getElem hi]
    rfl
  have hl : (heldOf rows).length ≤ 1000 := Nat.le_trans (held_len rows []) (by simpa using few)
  have inn : ∀ p ∈ heldOf rows, p.1 ∈ rows := fun p hp => (held_keys rows [] p hp).elim id fun z => by simp at z
  refine .rt (ds_seq (ss1 := [some (.dat (mapD T.C_Map M)), some (.dat (.lst (rows.map rowD))), some (.dat (.dic (heldOf rows))), none]) (m1 := []) (ds_set (full ▸ dt_dcMap (di_list (dt_var (i := 1) rfl)) (fun i => rows.getD i []) (fun _ => .bl true) acc rfl grow (by omega) fun i hi => ⟨_, _, dg_name, by decide, ?_, dt_bl⟩)) ?_)
  · rw [len] at hi
    rw [nth_map rowD hi []]
    exact dt_var rfl
  · refine ds_ret ?_
    let m := heldOf rows
    let g : List Int → Bool := fun r => spoilOk M (fun r => (getI m r).isSome) (ofRow r)
    have all : (List.range m.length).map (fun i => D.bl (g (m.getD i ([], .non)).1)) = (m.map fun p => g p.1).map D.bl := by
      refine List.ext_getElem? fun i => ?_
      simp only [List.getElem?_map]
      by_cases h : i < m.length
      · rw [List.getElem?_range h, List.getElem?_eq_getElem h]
        show some (D.bl (g (m.getD i ([], .non)).1)) = some (D.bl (g m[i].1))
        rw [List.getD_eq_getElem?_getD, List.getElem?_eq_getElem h]
        rfl
      · rw [List.getElem?_eq_none (by rw [List.length_range]; omega), List.getElem?_eq_none (by omega)]
        rfl
    have key : shut M m = (m.map fun p => g p.1).all id := by rw [List.all_map]; rfl
    rw [show shut M (heldOf rows) = shut M m from rfl, key]
    refine dt_all ?_
    rw [← all]
    refine dt_lk 2 (m := m) rfl (fun i q z => ?_) (fun q z => nomatch z) (dt_lcMap (di_keys (i := 2) (m := m) rfl) (fun i => .bl (g (m.getD i ([], .non)).1)) (Nat.le_trans hl (by decide)) fun i hi => ⟨_, _, dg_name, by decide, ?_⟩)
    · match i with
      | 0 => exact nomatch z
      | 1 => exact nomatch z
      | 2 => exact nomatch z
      | 3 => exact nomatch z
      | n + 4 => exact nomatch z
    · have mem : m.getD i ([], .non) ∈ m := by
        rw [List.getD_eq_getElem?_getD, List.getElem?_eq_getElem hi]
        exact List.getElem_mem hi
      obtain ⟨ok, er⟩ := hk _ (inn _ mem)
      refine dt_call (da_cons (dt_var rfl) (da_cons (dt_varLk (m := m) rfl) (da_cons (dt_var rfl) da_nil))) ⟨M, m, ofRow (m.getD i ([], .non)).1, ?_, hM, ok, rfl⟩
      show [mapD T.C_Map M, D.dic m, rowD (m.getD i ([], .non)).1] = [mapD T.C_Map M, D.dic m, rowD (ofRow (m.getD i ([], .non)).1).row]
      rw [← er]
end
end K2
end
section
set_option Elab.async false
set_option linter.all false
set_option maxRecDepth 100000
set_option maxHeartbeats 4000000
namespace K2
open PySem PySem.Spec PyProof.Rows L2 DL
/-- the cost that the dict has of a result -/
def costO (c : List (List Int × D)) : Option StD → Option Int
  | none => none
  | some s => match getI c s.row with
    | some (.int i) => some i
    | _ => none
def worst (c : List (List Int × D)) (es : List (Option StD)) : Option Int :=
  if es.any (fun e => (costO c e).isNone) then none else match es.filterMap (costO c) with
    | [] => none
    | n :: ns => some (ns.foldl max n)
/-- the dict has a cost of each result -/
def Priced (c : List (List Int × D)) (es : List (Option StD)) : Prop := ∀ s, some s ∈ es → ∃ v : Option Int, getI c s.row = some (optD v)
theorem costO_some {c : List (List Int × D)} {s : StD} {v : Option Int} (h : getI c s.row = some (optD v)) : costO c (some s) = v := by
  unfold costO
  dsimp only
  rw [h]
  cases v <;> rfl
theorem flat_optD (v : Option Int) : D.flat 1 (optD v) = true := by cases v <;> rfl
theorem flat_opts (vs : List (Option Int)) : D.flat 2 (.lst (vs.map optD)) = true := by
  show D.flatAll 1 (vs.map optD) = true
  induction vs with
  | nil => rfl
  | cons v vs ih =>
    show (D.flat 1 (optD v) && D.flatAll 1 (vs.map optD)) = true
    rw [flat_optD, ih]
    rfl
theorem none_anyI : ∀ vs : List (Option Int), ((D.pyAll (vs.map optD)).any fun z => PyData.eqv z D.non.py) = vs.any Option.isNone
  | [] => rfl
  | none :: vs => by
    show (PyData.eqv D.non.py D.non.py || _) = (true || _)
    rw [show PyData.eqv D.non.py D.non.py = true from eqv_self (n := 0) (d := .non) rfl]
    rfl
  | some i :: vs => by
    show (PyData.eqv (D.int i).py D.non.py || (D.pyAll (vs.map optD)).any fun z => PyData.eqv z D.non.py) = (false || vs.any Option.isNone)
    rw [none_anyI vs]
    rfl
section
variable {P : Program} {w : World} {K : PySem.W.Frag} {mg : Str → Option Value} {base : Heap} {k : Nat}
def R_great (args : List Vl) (m : Mc) (d : D) (m' : Mc) : Prop := ∃ (c : List (List Int × D)) (es : List (Option StD)), args = [.own 0, .dat (.lst (es.map stO))] ∧ m = .dic c ∧ m' = .dic c ∧ Priced c es ∧ es ≠ [] ∧ es.length ≤ 5 ∧ d = optD (worst c es)
theorem ok_greatest_cost (T : Txt K mg) : FnOk P w K mg base CX0 3 T.a_greatest_cost T.fd_greatest_cost ["costs", "ends"] (spM K 2 R_great) := by
  refine fnM T.F_greatest_cost sc_greatest_cost rfl (fun cdv A outer s H E hr => ?_)
  refine ⟨_, (pss_cons (ps_setLc (i := 2) (own := [("end", 3)]) rfl sc_greatest_cost.nd rfl rfl (sw_true rfl rfl rfl (by decide +kernel)) (piList K (pv 1)) (blkOk_by (own := [("end", 3)]) (N := ["costs", "ends", "found", "end"]) (sc := defScope s_greatest_cost) (by decide +kernel)) (fun _ _ _ _ _ => (pg_name (i := 3) sc_greatest_cost.nd rfl (.inl rfl))) (fun _ _ _ _ _ => pts_nil) (fun _ _ _ _ _ => (pe_ifExp (pt_cmp (pc_isN (pv 3))) pe_non (pe_dget (DL.rm1 hr) (pv 0) (pv 3) (fun _ _ => rfl)))))
  (pss_one (ps_ret (pe_ifExp (pt_cmpR (opInD K (DL.room_in hr)) pe_non (pv 2) (by rfl)) pe_non (pe_callB (cr_max rfl) (by rfl) T.n_max (by decide +kernel) (pa_cons (pv 2) pa_nil)))))), ?_⟩
  rintro args m d m' ⟨c, es, rfl, rfl, rfl, pr, ne, h5, rfl⟩ -
  have e : (es.map stO).length = es.length := List.length_map _
  let vs : List (Option Int) := es.map (costO c)
  have all : (List.range (es.map stO).length).map (fun i => optD (costO c (es.getD i none))) = vs.map optD := by
    refine List.ext_getElem? fun i => ?_
    rw [e]
    show _ = ((es.map (costO c)).map optD)[i]?
    simp only [List.getElem?_map]
    by_cases h : i < es.length
    · rw [List.getElem?_range h, List.getElem?_eq_getElem h]
      show some (optD (costO c (es.getD i none))) = some (optD (costO c es[i]))
      rw [List.getD_eq_getElem?_getD, List.getElem?_eq_getElem h]
      rfl
    · rw [List.getElem?_eq_none (by rw [List.length_range]; omega), List.getElem?_eq_none (by omega)]
      rfl
  let s0 : Sl := [some (.own 0), some (.dat (.lst (es.map stO))), some (.dat (.lst (vs.map optD))), none]
  refine .rt (ds_seq (ss1 := s0) (m1 := [.dic c]) (ds_set (all ▸ dt_lcMap (di_list (dt_var (i := 1) rfl)) (fun i => optD (costO c (es.getD i none))) (by omega) fun i hi => ⟨_, _, dg_name, by decide, ?_⟩)) (ds_ret ?_))
  · rw [e] at hi
    rw [nth_map stO hi none]
    have mem : es.getD i none ∈ es := by
      rw [List.getD_eq_getElem?_getD, List.getElem?_eq_getElem hi]
      exact List.getElem_mem hi
    generalize es.getD i none = o at mem
    cases o with
    | none => exact dt_if (b := true) (db_b (dt_isN (d := .non) (dt_var rfl))) dt_non
    | some z =>
      obtain ⟨v, hv⟩ := pr z mem
      rw [costO_some hv]
      exact dt_if (b := false) (db_b (dt_isN (d := stD z) (dt_var rfl))) (dt_dget (k := z.row) (m := c) (x := .own 0) (dt_var rfl) (dt_var rfl) (.own rfl) hv)
  · have inn := dt_inD (K := K) (n := 2) (ss := s0) (mem := [.dic c]) (dt_non (K := K)) (dt_var (i := 2) rfl) rfl (flat_opts vs) (by decide)
    rw [none_anyI] at inn
    have eq : es.any (fun e => (costO c e).isNone) = vs.any Option.isNone := by
      show _ = (es.map (costO c)).any Option.isNone
      rw [List.any_map]
      rfl
    unfold worst
    rw [eq]
    refine dt_if (b := vs.any Option.isNone) (db_test inn) ?_
    cases q : vs.any Option.isNone with
    | true =>
      rw [if_pos rfl, if_pos rfl]
      exact dt_non
    | false =>
      rw [if_neg Bool.false_ne_true, if_neg Bool.false_ne_true]
      have asInts : ∀ l : List (Option StD), (l.map (costO c)).any Option.isNone = false → (l.map (costO c)).map optD = (l.filterMap (costO c)).map D.int := fun l => by
        induction l with
        | nil => exact fun _ => rfl
        | cons x l ih =>
          intro h
          cases z : costO c x with
          | none => simp [z] at h
          | some i =>
            have h' : (l.map (costO c)).any Option.isNone = false := by simpa [z] using h
            rw [List.map_cons, List.map_cons, List.filterMap_cons, z, ih h']
            rfl
      have r := asInts es q
      cases z : es.filterMap (costO c) with
      | nil =>
        rw [z] at r
        have : es.length = 0 := by
          have := congrArg List.length r
          simpa using this
        exact absurd (List.length_eq_zero_iff.mp this) ne
      | cons n ns =>
        rw [z] at r
        obtain ⟨f1, f2⟩ := fold_max ns n
        exact dt_maxL (ns := n :: ns) (r ▸ dt_var rfl) f1 f2
end
end K2
end
section
set_option Elab.async false
set_option linter.all false
set_option maxRecDepth 100000
set_option maxHeartbeats 4000000
namespace K2
open PySem PySem.Spec PyProof.Rows L2 DL
/-! ### the least costs, as a table that grows -/
abbrev Costs := List (List Int × D)
def better (least : Option Int) (total : Int) : Option Int := some (match least with
  | none => total
  | some l => if total < l then total else l)
/-- the table with the least costs of a state and of all that can follow it; n: how deep at most -/
def addC (M : MapD) : Nat → StD → Costs → Costs
  | 0, _, c => c
  | n + 1, s, c => if (getI c s.row).isSome = true then c else
      let r := (M.mv s).foldl (fun (a : Costs × Option Int) m =>
        let es := M.endsS s m.1 m.2
        let c1 := es.foldl (fun c e => match e with | none => c | some e => addC M n e c) a.1
        (c1, match worst c1 es with | none => a.2 | some v => better a.2 (M.fee s m.1 + v))) (c, if M.done s = true then some 0 else none)
      putI r.1 s.row (optD r.2)
theorem getI_map {c : Costs} {k j : List Int} {d : D} : getI (c.map fun p => if p.1 = k then (p.1, d) else p) j = (getI c j).map fun x => if j = k then d else x := by
  induction c with
  | nil => rfl
  | cons p c ih =>
    show (if (if p.1 = k then (p.1, d) else p).1 = j then some (if p.1 = k then (p.1, d) else p).2 else getI (c.map fun p => if p.1 = k then (p.1, d) else p) j) = _
    by_cases e : p.1 = k
    · simp only [if_pos e]
      by_cases e2 : p.1 = j
      · rw [if_pos e2]
        show _ = (if p.1 = j then some p.2 else getI c j).map _
        rw [if_pos e2]
        simp [← e2, e]
      · rw [if_neg e2, ih]
        show _ = (if p.1 = j then some p.2 else getI c j).map _
        rw [if_neg e2]
    · simp only [if_neg e]
      by_cases e2 : p.1 = j
      · rw [if_pos e2]
        show _ = (if p.1 = j then some p.2 else getI c j).map _
        rw [if_pos e2]
        simp [← e2, e]
      · rw [if_neg e2, ih]
        show _ = (if p.1 = j then some p.2 else getI c j).map _
        rw [if_neg e2]
theorem getI_snoc {c : Costs} {k j : List Int} {d : D} (h : getI c k = none) : getI (c ++ [(k, d)]) j = if j = k then some d else getI c j := by
  induction c with
  | nil =>
    show (if k = j then some d else none) = if j = k then some d else none
    by_cases e : j = k
    · rw [if_pos e, if_pos e.symm]
    · rw [if_neg e, if_neg fun z => e z.symm]
  | cons p c ih =>
    have hp : ¬ p.1 = k := fun z => by
      rw [show getI (p :: c) k = some p.2 from if_pos z] at h
      cases h
    have h' : getI c k = none := by rw [← h]; exact (if_neg hp).symm
    show (if p.1 = j then some p.2 else getI (c ++ [(k, d)]) j) = if j = k then some d else (if p.1 = j then some p.2 else getI c j)
    rw [ih h']
    by_cases e : p.1 = j
    · rw [if_pos e, if_pos e, if_neg fun z => hp (e.trans z)]
    · rw [if_neg e, if_neg e]
theorem getI_put (c : Costs) (k j : List Int) (d : D) : getI (putI c k d) j = if j = k then some d else getI c j := by
  unfold putI
  by_cases h : (getI c k).isSome = true
  · rw [if_pos h, getI_map]
    by_cases e : j = k
    · subst e
      obtain ⟨x, hx⟩ := Option.isSome_iff_exists.mp h
      rw [hx, if_pos rfl]
      simp
    · rw [if_neg e]
      cases getI c j with
      | none => rfl
      | some x => simp [e]
  · rw [if_neg h]
    exact getI_snoc (by simpa using h)
/-- a table whose values are costs -/
def Good (c : Costs) : Prop := ∀ k d, getI c k = some d → ∃ v, d = optD v
/-- nothing is lost, and what comes anew lies at places from p on -/
structure Grows (p : Int) (c c' : Costs) : Prop where
  kept : ∀ k d, getI c k = some d → getI c' k = some d
  new : ∀ k d, getI c' k = some d → getI c k = some d ∨ p ≤ (ofRow k).p
theorem Grows.refl (p : Int) (c : Costs) : Grows p c c := ⟨fun _ _ h => h, fun _ _ h => .inl h⟩
theorem Grows.trans {p : Int} {a b c : Costs} (h : Grows p a b) (g : Grows p b c) : Grows p a c :=
  ⟨fun k d z => g.kept k d (h.kept k d z), fun k d z => (g.new k d z).elim (h.new k d) .inr⟩
theorem Grows.from {p q : Int} {a b : Costs} (h : Grows q a b) (l : p ≤ q) : Grows p a b := ⟨h.kept, fun k d z => (h.new k d z).imp id (Int.le_trans l)⟩
/-- the results of a move lie further on -/
theorem ends_on {M : MapD} {s e : StD} {m : Nat × Nat} (hM : M.Ok) (h : m ∈ M.mv s) (he : some e ∈ M.endsS s m.1 m.2) : s.p + 1 ≤ e.p := by
  obtain ⟨more, -, z⟩ := List.mem_map.mp he
  unfold endS at z
  split at z
  · cases z
    have lt := lead_lt (mv_in h).2
    have mem : M.road m.2 ∈ M.roads := by
      unfold MapD.road
      rw [List.getD_eq_getElem?_getD, List.getElem?_eq_getElem lt]
      exact List.getElem_mem lt
    have := (hM.rd _ mem).ab
    have := lead_a (mv_in h).2
    show s.p + 1 ≤ (M.road m.2).b
    omega
  · cases z
theorem foldl_inv {α β : Type} (P : β → Prop) (f : β → α → β) : ∀ (l : List α) (b : β), P b → (∀ b, ∀ a ∈ l, P b → P (f b a)) → P (l.foldl f b)
  | [], _, h, _ => h
  | a :: l, b, h, g => foldl_inv P f l (f b a) (g b a List.mem_cons_self h) fun b' a' ha => g b' a' (List.mem_cons_of_mem _ ha)
theorem row_p (s : StD) : (ofRow s.row).p = s.p := rfl
/-- what addC leaves -/
theorem addC_ok {M : MapD} (hM : M.Ok) : ∀ (n : Nat) (s : StD) (c : Costs), Good c → Grows s.p c (addC M n s c) ∧ Good (addC M n s c) ∧ (0 < n → ∃ v, getI (addC M n s c) s.row = some (optD v))
  | 0, s, c, g => ⟨Grows.refl _ _, g, fun h => absurd h (Nat.lt_irrefl 0)⟩
  | n + 1, s, c, g => by
    by_cases have_ : (getI c s.row).isSome = true
    · have e : addC M (n + 1) s c = c := by
        rw [addC, if_pos have_]
      rw [e]
      obtain ⟨d, hd⟩ := Option.isSome_iff_exists.mp have_
      obtain ⟨v, rfl⟩ := g _ _ hd
      exact ⟨Grows.refl _ _, g, fun _ => ⟨v, hd⟩⟩
    · rw [addC, if_neg have_]
      dsimp only
      have none_ : getI c s.row = none := by simpa using have_
      have inv := foldl_inv (fun (a : Costs × Option Int) => Grows (s.p + 1) c a.1 ∧ Good a.1) (fun (a : Costs × Option Int) m =>
        let es := M.endsS s m.1 m.2
        let c1 := es.foldl (fun c e => match e with | none => c | some e => addC M n e c) a.1
        (c1, match worst c1 es with | none => a.2 | some v => better a.2 (M.fee s m.1 + v))) (M.mv s) (c, if M.done s = true then some 0 else none) ⟨Grows.refl _ _, g⟩ fun a m hm ha => by
          refine foldl_inv (fun c' => Grows (s.p + 1) c c' ∧ Good c') _ (M.endsS s m.1 m.2) a.1 ha fun c' e he hc => ?_
          cases e with
          | none => exact hc
          | some e =>
            obtain ⟨h1, h2, -⟩ := addC_ok hM n e c' hc.2
            exact ⟨hc.1.trans (h1.from (ends_on hM hm he)), h2⟩
      generalize (M.mv s).foldl _ _ = r at inv
      obtain ⟨gr, gd⟩ := inv
      have still : getI r.1 s.row = none := by
        cases q : getI r.1 s.row with
        | none => rfl
        | some d =>
          rcases gr.new _ _ q with z | z
          · rw [none_] at z
            cases z
          · rw [row_p] at z
            omega
      refine ⟨⟨fun k d h => ?_, fun k d h => ?_⟩, fun k d h => ?_, fun _ => ⟨r.2, by rw [getI_put, if_pos rfl]⟩⟩
      · rw [getI_put]
        have ne : ¬ k = s.row := fun z => by
          rw [z, none_] at h
          cases h
        rw [if_neg ne]
        exact gr.kept k d h
      · rw [getI_put] at h
        by_cases z : k = s.row
        · exact .inr (by rw [z, row_p]; exact Int.le_refl _)
        · rw [if_neg z] at h
          exact (gr.new k d h).imp id fun q => by omega
      · rw [getI_put] at h
        by_cases z : k = s.row
        · rw [if_pos z] at h
          cases h
          exact ⟨r.2, rfl⟩
        · rw [if_neg z] at h
          exact gd k d h
end K2
end
section
set_option Elab.async false
set_option linter.all false
set_option maxRecDepth 100000
set_option maxHeartbeats 4000000
namespace K2
open PySem PySem.Spec PyProof.Rows L2 DL
/-! ### results are states; tables stay small -/
theorem hours_in {m R : Int} (m0 : 0 ≤ m) : ∀ (n : Nat) (x : Int × Int), 0 ≤ x.1 → x.1 ≤ R → 0 ≤ x.2 → 0 ≤ (hours m x n).1 ∧ (hours m x n).1 ≤ R ∧ 0 ≤ (hours m x n).2
  | 0, x, a, b, c => ⟨a, b, c⟩
  | n + 1, x, a, b, c => by
    obtain ⟨h1, h2, h3⟩ := hours_in (R := R) m0 n x a b c
    show 0 ≤ (hour m (hours m x n)).1 ∧ (hour m (hours m x n)).1 ≤ R ∧ 0 ≤ (hour m (hours m x n)).2
    unfold hour
    split
    · exact ⟨by show 0 ≤ (hours m x n).1 - m; omega, by show (hours m x n).1 - m ≤ R; omega, h3⟩
    · exact ⟨Int.le_refl 0, by show (0 : Int) ≤ R; omega, by show 0 ≤ (hours m x n).2 + 1; omega⟩
theorem ends_ok {M : MapD} {s e : StD} {m : Nat × Nat} (hM : M.Ok) (hs : s.Ok M) (h : m ∈ M.mv s) (he : some e ∈ M.endsS s m.1 m.2) : e.Ok M := by
  obtain ⟨more, hm, z⟩ := List.mem_map.mp he
  have lm := List.mem_range.mp hm
  have lt := lead_lt (mv_in h).2
  have mem : M.road m.2 ∈ M.roads := by
    unfold MapD.road
    rw [List.getD_eq_getElem?_getD, List.getElem?_eq_getElem lt]
    exact List.getElem_mem lt
  have rd := hM.rd _ mem
  have fits : s.i + (m.1 : Int) ≤ M.room := by
    have h1 := (mv_in h).1
    have h2 := hs.i1
    unfold MapD.most at h1
    split at h1 <;> omega
  have i0 := hs.i0
  obtain ⟨x1, x2, x3⟩ := hours_in (R := M.room) rd.m0 ((M.road m.2).h.toNat + more) (s.i + (m.1 : Int), s.w) (by show 0 ≤ s.i + (m.1 : Int); omega) fits hs.w0
  unfold endS at z
  split at z
  · rename_i bear
    cases z
    have l1 := hs.l1
    have a0 := rd.a0
    have ab := rd.ab
    exact ⟨by show 0 ≤ (M.road m.2).b; omega, rd.bn, x1, x2, x3, bear, by show 0 ≤ s.l - (more : Int); omega, by show s.l - (more : Int) ≤ 4; omega⟩
  · cases z
theorem nodup_len : ∀ (l m : List (List Int)), l.Nodup → (∀ x ∈ l, x ∈ m) → l.length ≤ m.length
  | [], m, _, _ => Nat.zero_le _
  | x :: l, m, nd, h => by
    have nd' := List.nodup_cons.mp nd
    have hx := h x List.mem_cons_self
    have rest := nodup_len l (m.erase x) nd'.2 fun y hy => (List.mem_erase_of_ne fun (z : y = x) => nd'.1 (by rw [← z]; exact hy)).mpr (h y (List.mem_cons_of_mem _ hy))
    rw [List.length_erase_of_mem hx] at rest
    have pos := List.length_pos_of_mem hx
    show l.length + 1 ≤ m.length
    omega
structure Tab (c : Costs) : Prop where
  good : Good c
  nd : (c.map (·.1)).Nodup
  inn : ∀ p ∈ c, p.1 ∈ rows4
theorem Tab.nil : Tab [] := ⟨(fun k d h => nomatch h), List.nodup_nil, (fun p h => nomatch h)⟩
theorem Tab.few {c : Costs} (t : Tab c) : c.length ≤ 525 := by
  have h := nodup_len (c.map (·.1)) rows4 t.nd fun x hx => by
    obtain ⟨p, hp, rfl⟩ := List.mem_map.mp hx
    exact t.inn p hp
  rw [List.length_map] at h
  exact Nat.le_trans h (by decide +kernel)
theorem getI_none {c : Costs} {k : List Int} (h : getI c k = none) : k ∉ c.map (·.1) := by
  induction c with
  | nil => exact List.not_mem_nil
  | cons p c ih =>
    have hp : ¬ p.1 = k := fun z => by
      rw [show getI (p :: c) k = some p.2 from if_pos z] at h
      cases h
    rw [show getI (p :: c) k = getI c k from if_neg hp] at h
    intro z
    exact (List.mem_cons.mp z).elim (fun y => hp y.symm) (ih h)
theorem Tab.put {c : Costs} (t : Tab c) {k : List Int} {v : Option Int} (hk : k ∈ rows4) : Tab (putI c k (optD v)) := by
  refine ⟨fun j d h => ?_, ?_, fun p h => ?_⟩
  · rw [getI_put] at h
    by_cases z : j = k
    · rw [if_pos z] at h
      cases h
      exact ⟨v, rfl⟩
    · rw [if_neg z] at h
      exact t.good j d h
  · unfold putI
    split
    · have e : (c.map fun p => if p.1 = k then (p.1, optD v) else p).map (·.1) = c.map (·.1) := by
        rw [List.map_map]
        refine List.map_congr_left fun p _ => ?_
        show (if p.1 = k then (p.1, optD v) else p).1 = p.1
        split <;> rfl
      rw [e]
      exact t.nd
    · rename_i no
      have none_ : getI c k = none := by simpa using no
      rw [List.map_append, List.nodup_append]
      refine ⟨t.nd, List.pairwise_singleton _ _, fun a ha b hb e => ?_⟩
      have eb : b = k := List.mem_singleton.mp hb
      exact getI_none none_ (by rw [← eb, ← e]; exact ha)
  · unfold putI at h
    split at h
    · obtain ⟨q, hq, rfl⟩ := List.mem_map.mp h
      show (if q.1 = k then (q.1, optD v) else q).1 ∈ _
      split <;> exact t.inn q hq
    · rcases List.mem_append.mp h with z | z
      · exact t.inn p z
      · rw [List.mem_singleton.mp z]
        exact hk
/-- addC keeps a table a table -/
theorem addC_tab {M : MapD} (hM : M.Ok) : ∀ (n : Nat) (s : StD) (c : Costs), s.Ok M → Tab c → Tab (addC M n s c)
  | 0, s, c, _, t => t
  | n + 1, s, c, hs, t => by
    by_cases there : (getI c s.row).isSome = true
    · rw [addC, if_pos there]
      exact t
    · rw [addC, if_neg there]
      dsimp only
      refine Tab.put ?_ (row_in hM hs)
      refine foldl_inv (fun (a : Costs × Option Int) => Tab a.1) (fun (a : Costs × Option Int) m =>
        let es := M.endsS s m.1 m.2
        let c1 := es.foldl (fun c e => match e with | none => c | some e => addC M n e c) a.1
        (c1, match worst c1 es with | none => a.2 | some v => better a.2 (M.fee s m.1 + v))) (M.mv s) (c, if M.done s = true then some 0 else none) t fun a m hm ha => ?_
      refine foldl_inv (fun c' => Tab c') _ (M.endsS s m.1 m.2) a.1 ha fun c' e he hc => ?_
      cases e with
      | none => exact hc
      | some e => exact addC_tab hM n e c' (ends_ok hM hs hm he) hc
end K2
end
section
set_option Elab.async false
set_option linter.all false
set_option maxRecDepth 100000
set_option maxHeartbeats 4000000
namespace K2
open PySem PySem.Spec PyProof.Rows L2 DL
/-! ### add_least_cost is addC -/
def addEnd (M : MapD) (n : Nat) (c : Costs) (e : Option StD) : Costs := match e with
  | none => c
  | some e => addC M n e c
def newLeast (l : Option Int) (fee : Int) : Option Int → Option Int
  | none => l
  | some v => better l (fee + v)
def addMove (M : MapD) (n : Nat) (s : StD) (a : Costs × Option Int) (m : Nat × Nat) : Costs × Option Int :=
  let c1 := (M.endsS s m.1 m.2).foldl (addEnd M n) a.1
  (c1, newLeast a.2 (M.fee s m.1) (worst c1 (M.endsS s m.1 m.2)))
def first (M : MapD) (s : StD) : Option Int := if M.done s = true then some 0 else none
theorem addC_succ (M : MapD) (n : Nat) (s : StD) (c : Costs) : addC M (n + 1) s c = if (getI c s.row).isSome = true then c else putI ((M.mv s).foldl (addMove M n s) (c, first M s)).1 s.row (optD ((M.mv s).foldl (addMove M n s) (c, first M s)).2) := rfl
theorem getD_mem {α : Type} {l : List α} {i : Nat} (h : i < l.length) (z : α) : l.getD i z ∈ l := by
  rw [List.getD_eq_getElem?_getD, List.getElem?_eq_getElem h]
  exact List.getElem_mem h
theorem take_snoc {α : Type} {l : List α} {i : Nat} (h : i < l.length) (z : α) : l.take (i + 1) = l.take i ++ [l.getD i z] := by
  rw [List.take_succ, List.getElem?_eq_getElem h, List.getD_eq_getElem?_getD, List.getElem?_eq_getElem h]
  rfl
theorem fold_snoc {α β : Type} (f : β → α → β) (b : β) {l : List α} {i : Nat} (h : i < l.length) (z : α) : (l.take (i + 1)).foldl f b = f ((l.take i).foldl f b) (l.getD i z) := by
  rw [take_snoc h z, List.foldl_append]
  rfl
/-- behind the walk over the results all of them are priced, and it is a table still -/
theorem walk_ends {M : MapD} (hM : M.Ok) {s : StD} (hS : s.Ok M) {m : Nat × Nat} (hm : m ∈ M.mv s) (n : Nat) : ∀ (l : List (Option StD)), (∀ e ∈ l, e ∈ M.endsS s m.1 m.2) → ∀ c : Costs, Tab c → Tab (l.foldl (addEnd M n) c) ∧ Grows (s.p + 1) c (l.foldl (addEnd M n) c) ∧ (0 < n → Priced (l.foldl (addEnd M n) c) l)
  | [], _, c, t => ⟨t, Grows.refl _ _, fun _ s h => by cases h⟩
  | e :: l, hl, c, t => by
    have hl' : ∀ e ∈ l, e ∈ M.endsS s m.1 m.2 := fun e he => hl e (List.mem_cons_of_mem _ he)
    have he := hl e List.mem_cons_self
    cases e with
    | none =>
      obtain ⟨h1, h2, h3⟩ := walk_ends hM hS hm n l hl' c t
      refine ⟨h1, h2, fun hn z hz => ?_⟩
      rcases List.mem_cons.mp hz with q | q
      · cases q
      · exact h3 hn z q
    | some x =>
      have hx : x.Ok M := ends_ok hM hS hm he
      have t' : Tab (addC M n x c) := addC_tab hM n x c hx t
      obtain ⟨g1, g2, g3⟩ := addC_ok hM n x c t.good
      obtain ⟨h1, h2, h3⟩ := walk_ends hM hS hm n l hl' (addC M n x c) t'
      refine ⟨h1, (g1.from (ends_on hM hm he)).trans h2, fun hn z hz => ?_⟩
      rcases List.mem_cons.mp hz with q | q
      · obtain ⟨v, hv⟩ := g3 hn
        have e : z = x := Option.some.inj q
        exact ⟨v, by rw [e]; exact h2.kept _ _ hv⟩
      · exact h3 hn z q
theorem walk_moves {M : MapD} (hM : M.Ok) {s : StD} (hS : s.Ok M) (n : Nat) : ∀ (l : List (Nat × Nat)), (∀ m ∈ l, m ∈ M.mv s) → ∀ a : Costs × Option Int, Tab a.1 → Tab (l.foldl (addMove M n s) a).1
  | [], _, a, t => t
  | m :: l, hl, a, t => walk_moves hM hS n l (fun x hx => hl x (List.mem_cons_of_mem _ hx)) (addMove M n s a m) (walk_ends hM hS (hl m List.mem_cons_self) n (M.endsS s m.1 m.2) (fun _ h => h) a.1 t).1
/-- where a move is possible, the goal lies further on -/
theorem mv_far {M : MapD} (hM : M.Ok) {s : StD} {m : Nat × Nat} (h : m ∈ M.mv s) : s.p + 1 ≤ M.places - 1 := by
  have lt := lead_lt (mv_in h).2
  have mem : M.road m.2 ∈ M.roads := getD_mem lt _
  have ab := (hM.rd _ mem).ab
  have bn := (hM.rd _ mem).bn
  have a := lead_a (mv_in h).2
  omega
theorem ends_ne {M : MapD} {s : StD} (hS : s.Ok M) (p r : Nat) : M.endsS s p r ≠ [] := fun z => by
  have l0 := hS.l0
  have : (M.endsS s p r).length = (s.l + 1).toNat := by
    unfold MapD.endsS
    rw [List.length_map, List.length_range]
  rw [z] at this
  have : (s.l + 1).toNat = 0 := this.symm
  omega
section
variable {P : Program} {w : World} {K : PySem.W.Frag} {mg : Str → Option Value} {base : Heap} {k : Nat}
def R_addN (C : Addr) (n : Nat) (args : List Vl) (m : Mc) (d : D) (m' : Mc) : Prop := ∃ (M : MapD) (s : StD) (c : Costs), args = [.dat (mapD C M), .dat (stD s), .own 0] ∧ m = .dic c ∧ M.Ok ∧ s.Ok M ∧ Tab c ∧ M.places - s.p ≤ (n : Int) ∧ d = .non ∧ m' = .dic (addC M n s c)
theorem ok_addN (T : Txt K mg) : ∀ n : Nat, FnOk P w K mg base CX0 (n + 6) T.a_add_least_cost T.fd_add_least_cost ["chart", "state", "costs"] (spM K 3 (R_addN T.C_Map n))
  | 0 => by
    have no : ∀ vs H Q E, ¬ spM K 3 (R_addN T.C_Map 0) vs H Q E := by
      rintro vs H Q E ⟨B, al, args, mem, d, mem', ⟨m, m', -, -, M, s, c, -, -, hM, hS, -, hp, -⟩, -⟩
      have := hS.p1
      omega
    exact ⟨fun vs H Q E h => (no vs H Q E h).elim, fun A outer s H args us vs Q E _ _ _ _ h => (no vs H Q E h).elim⟩
  | n + 1 => by
    have ih := ok_addN T n
    refine fnM (k := n + 6) T.F_add_least_cost sc_add_least_cost rfl (fun cdv A outer s H E hr => ?_)
    refine ⟨_, (pss_cons (ps_if (pt_cmp (pc_din (DL.rm1 hr) (pv 1) (pv 2))) (pss_one ps_retN) pss_nil)
  (pss_cons (ps_set (i := 3) sc_add_least_cost.nd rfl (.inl rfl) (pe_ifExp (pt_val (pe_call (ok_is_done T) (hr.mono (by omega)) (by rfl) T.g_is_done T.F_is_done.kp T.b_is_done .nil pass0 (pa_cons (pv 0) (pa_cons (pv 1) pa_nil)))) pe_int pe_non))
  (pss_cons (ps_for PassesOwn.never rfl (piList K (pe_call (ok_possible_moves T) (hr.mono (by omega)) (by rfl) T.g_possible_moves T.F_possible_moves.kp T.b_possible_moves .nil pass0 (pa_cons (pv 0) (pa_cons (pv 1) pa_nil)))) (pg_name (i := 4) sc_add_least_cost.nd rfl (.inl rfl)) (pss_cons (ps_set (i := 5) sc_add_least_cost.nd rfl (.inl rfl) (pe_call (ok_move_results T) (hr.mono (by omega)) (by rfl) T.g_move_results T.F_move_results.kp T.b_move_results .nil pass0 (pa_cons (pv 0) (pa_cons (pv 1) (pa_cons (pv 4) pa_nil)))))
  (pss_cons (ps_for PassesOwn.never rfl (piList K (pv 5)) (pg_name (i := 6) sc_add_least_cost.nd rfl (.inl rfl)) (pss_one (ps_if (pt_cmp (pc_notN (pv 6))) (pss_one (ps_expr (pe_call ih (hr.mono (by omega)) (by rfl) T.g_add_least_cost T.F_add_least_cost.kp T.b_add_least_cost .nil pass0 (pa_cons (pv 0) (pa_cons (pv 6) (pa_cons (pv 2) pa_nil)))))) pss_nil)))
  (pss_cons (ps_set (i := 7) sc_add_least_cost.nd rfl (.inl rfl) (pe_call (ok_greatest_cost T) (hr.mono (by omega)) (by rfl) T.g_greatest_cost T.F_greatest_cost.kp T.b_greatest_cost .nil pass0 (pa_cons (pv 2) (pa_cons (pv 5) pa_nil))))
  (pss_one (ps_if (pt_cmp (pc_notN (pv 7))) (pss_cons (ps_set (i := 8) sc_add_least_cost.nd rfl (.inl rfl) (pe_op op_add (pe_call (ok_move_cost T) (hr.mono (by omega)) (by rfl) T.g_move_cost T.F_move_cost.kp T.b_move_cost .nil pass0 (pa_cons (pv 0) (pa_cons (pv 1) (pa_cons (pv 4) pa_nil)))) (pv 7)))
  (pss_one (ps_set (i := 3) sc_add_least_cost.nd rfl (.inl rfl) (pe_ifExp (pt_cmp (pc_isN (pv 3))) (pv 8) (pe_callB (call_min2 rfl) (by rfl) T.n_min (by decide +kernel) (pa_cons (pv 3) (pa_cons (pv 8) pa_nil))))))) pss_nil))))))
  (pss_one (ps_dput (DL.rm1 hr) (pv 2) (pv 1) (pv 3) rfl))))), ?_⟩
    rintro args m d m' ⟨M, s, c, rfl, rfl, hM, hS, t, hp, rfl, rfl⟩ -
    let s0 : Sl := [some (.dat (mapD T.C_Map M)), some (.dat (stD s)), some (.own 0), none, none, none, none, none, none]
    have din : DB K _ s0 [.dic c] (getI c s.row).isSome [.dic c] := db_b (dt_din (k := s.row) (m := c) (x := .own 0) (dt_var (i := 1) rfl) (dt_var (i := 2) rfl) (.own rfl))
    rw [addC_succ]
    by_cases there : (getI c s.row).isSome = true
    · rw [if_pos there]
      rw [there] at din
      exact .rt (ds_stop (ds_if_t din ds_retN))
    · rw [if_neg there]
      rw [Bool.not_eq_true] at there
      rw [there] at din
      let mvs := M.mv s
      let z0 : Nat × Nat := (0, 0)
      let acc : Nat → Costs × Option Int := fun i => (mvs.take i).foldl (addMove M n s) (c, first M s)
      let f : Nat → Sl := fun i => [some (.dat (mapD T.C_Map M)), some (.dat (stD s)), some (.own 0), some (.dat (optD (acc i).2)), none, none, none, none, none]
      have accTab : ∀ i, Tab (acc i).1 := fun i => walk_moves hM hS n (mvs.take i) (fun m hm => List.mem_of_mem_take hm) (c, first M s) t
      have len : ((M.mv s).map fun m => mvD m.1 m.2).length = mvs.length := List.length_map _
      have whole : acc mvs.length = mvs.foldl (addMove M n s) (c, first M s) := by
        show (mvs.take mvs.length).foldl _ _ = _
        rw [List.take_length]
      refine .nx (s := f mvs.length) (ds_seq (ds_if_f din ds_next) ?_)
      refine ds_seq (ss1 := f 0) (m1 := [.dic c]) (ds_set (r := .dat (optD (first M s))) ?_) ?_
      · refine dt_if (b := M.done s) (db_b (dt_call (da_cons (dt_var rfl) (da_cons (dt_var rfl) da_nil)) ⟨M, s, rfl, rfl⟩)) ?_
        unfold first
        cases q : M.done s with
        | true => exact dt_int
        | false => exact dt_non
      refine ds_seq (ss1 := f mvs.length) (m1 := [.dic (acc mvs.length).1]) ?_ ?_
      · rw [← len]
        refine ds_forW [4, 5, 6, 7, 8] f (fun i => [.dic (acc i).1]) rfl (di_list (dt_call (da_cons (dt_var rfl) (da_cons (dt_var rfl) da_nil)) ⟨M, s, rfl, inR hM hS, by rw [moves_eq]⟩)) (fun _ => rfl) (fun _ => rfl) fun i hi => ?_
        rw [len] at hi
        have mem : mvs.getD i z0 ∈ M.mv s := getD_mem hi z0
        have nth : nthD ((M.mv s).map fun m => mvD m.1 m.2) i = mvD (mvs.getD i z0).1 (mvs.getD i z0).2 := nth_map (fun m : Nat × Nat => mvD m.1 m.2) hi z0
        have next : acc (i + 1) = addMove M n s (acc i) (mvs.getD i z0) := fold_snoc (addMove M n s) (c, first M s) hi z0
        have hn : 0 < n := by
          have := mv_far hM mem
          omega
        rw [nth]
        have tb := accTab i
        have fi : f i = [some (.dat (mapD T.C_Map M)), some (.dat (stD s)), some (.own 0), some (.dat (optD (acc i).2)), none, none, none, none, none] := rfl
        have fi1 : f (i + 1) = [some (.dat (mapD T.C_Map M)), some (.dat (stD s)), some (.own 0), some (.dat (optD (acc (i + 1)).2)), none, none, none, none, none] := rfl
        rw [fi, fi1, next]
        generalize mvs.getD i z0 = mv at mem
        generalize acc i = a at tb
        let es := M.endsS s mv.1 mv.2
        have esl : (es.map stO).length = es.length := List.length_map _
        have h5 : es.length ≤ 5 := ends_len hS _ _
        let cs : Nat → Costs := fun j => (es.take j).foldl (addEnd M n) a.1
        have wk := fun j => walk_ends hM hS mem n (es.take j) (fun e he => List.mem_of_mem_take he) a.1 tb
        have csall : cs es.length = es.foldl (addEnd M n) a.1 := by
          show (es.take es.length).foldl _ _ = _
          rw [List.take_length]
        have pr : Priced (cs es.length) es := by
          have := (wk es.length).2.2 hn
          rw [List.take_length] at this
          rw [csall]
          exact this
        let g : Sl := [some (.dat (mapD T.C_Map M)), some (.dat (stD s)), some (.own 0), some (.dat (optD a.2)), some (.dat (mvD mv.1 mv.2)), some (.dat (.lst (es.map stO))), none, none, none]
        let wv := worst (cs es.length) es
        have ad : addMove M n s a mv = (cs es.length, newLeast a.2 (M.fee s mv.1) wv) := by
          show ((es.foldl (addEnd M n) a.1), newLeast a.2 (M.fee s mv.1) (worst (es.foldl (addEnd M n) a.1) es)) = _
          rw [← csall]
        rw [ad]
        let g1 : Option Int → Sl := fun wv => [some (.dat (mapD T.C_Map M)), some (.dat (stD s)), some (.own 0), some (.dat (optD a.2)), some (.dat (mvD mv.1 mv.2)), some (.dat (.lst (es.map stO))), none, some (.dat (optD wv)), none]
        have tail : ∀ (t5 t6 t7 t8 : TS) (s' : Sl), DS K t5 ((([some (.dat (mapD T.C_Map M)), some (.dat (stD s)), some (.own 0), some (.dat (optD a.2)), none, none, none, none, none] : Sl).set 4 (some (.dat (mvD mv.1 mv.2))))) [.dic a.1] (.nx g [.dic a.1]) → DS K t6 g [.dic a.1] (.nx g [.dic (cs es.length)]) →
            DS K t7 g [.dic (cs es.length)] (.nx (g1 wv) [.dic (cs es.length)]) → DS K t8 (g1 wv) [.dic (cs es.length)] (.nx s' [.dic (cs es.length)]) →
            DS K (tSeq t5 (tSeq t6 (tSeq t7 t8))) ((([some (.dat (mapD T.C_Map M)), some (.dat (stD s)), some (.own 0), some (.dat (optD a.2)), none, none, none, none, none] : Sl).set 4 (some (.dat (mvD mv.1 mv.2))))) [.dic a.1] (.nx s' ([.dic (cs es.length)] ++ [])) := fun _ _ _ _ _ h1 h2 h3 h4 => ds_seq h1 (ds_seq h2 (ds_seq h3 h4))
        have step5 : DS K (tAsg _ (gName 5)) ((([some (.dat (mapD T.C_Map M)), some (.dat (stD s)), some (.own 0), some (.dat (optD a.2)), none, none, none, none, none] : Sl).set 4 (some (.dat (mvD mv.1 mv.2))))) [.dic a.1] (.nx g [.dic a.1]) := ds_set (i := 5) (r := .dat (.lst (es.map stO))) (dt_call (E := E0) (R := R_results T.C_Map) (n := 3) (da_cons (dt_var (i := 0) rfl) (da_cons (dt_var (i := 1) rfl) (da_cons (dt_var (i := 4) rfl) da_nil))) ⟨M, s, mv.1, mv.2, rfl, inM hM hS mem, by rw [ends_eq]⟩)
        have inner : ∀ (tb0 : TS), (∀ (o : Option StD) (c' : Costs), Tab c' → o ∈ es → DS K tb0 (g.set 6 (some (.dat (stO o)))) [.dic c'] (.nx (g.set 6 (some (.dat (stO o)))) [.dic (addEnd M n c' o)])) → DS K (tFor (iList K (tVar 5)) (gName 6) tb0) g [.dic a.1] (.nx g [.dic (cs es.length)]) := fun tb0 hb => by
          rw [← esl]
          refine ds_forW [6] (fun _ => g) (fun j => [.dic (cs j)]) rfl (di_list (dt_var (i := 5) rfl)) (fun _ => rfl) (fun _ => rfl) fun j hj => ?_
          rw [esl] at hj
          rw [nth_map stO hj none]
          refine ⟨g.set 6 (some (.dat (stO (es.getD j none)))), [], ?_, rfl⟩
          have nx : cs (j + 1) = addEnd M n (cs j) (es.getD j none) := fold_snoc (addEnd M n) a.1 hj none
          show DS K tb0 _ [.dic (cs j)] (.nx _ [.dic (cs (j + 1))])
          rw [nx]
          exact hb _ _ (wk j).1 (getD_mem hj none)
        suffices last : ∀ o : Option Int, ∃ s', DS K _ (g1 o) [.dic (cs es.length)] (.nx s' [.dic (cs es.length)]) ∧ wipeS s' [4, 5, 6, 7, 8] = [some (.dat (mapD T.C_Map M)), some (.dat (stD s)), some (.own 0), some (.dat (optD (newLeast a.2 (M.fee s mv.1) o))), none, none, none, none, none] by
          obtain ⟨s', l1, l2⟩ := last wv
          refine ⟨s', [], tail _ _ _ _ _ step5 (inner _ fun o c' tc ho => ?_) (ds_set (i := 7) (r := .dat (optD wv)) (dt_callM (p := 0) (m := .dic (cs es.length)) (dav_cons (dt_var (i := 2) rfl) (dav_cons (dt_var (i := 5) rfl) dav_nil)) ?_ rfl ⟨cs es.length, es, rfl, rfl, rfl, pr, ends_ne hS _ _, h5, rfl⟩)) l1, l2⟩
          · cases o with
            | none => exact ds_if_f (db_b (dt_notN (d := .non) (dt_var (i := 6) rfl))) ds_next
            | some x =>
              have on := ends_on hM mem ho
              refine ds_if_t (db_b (dt_notN (d := stD x) (dt_var (i := 6) rfl))) (ds_drop (dt_callM (p := 0) (m := .dic c') (d := .non) (dav_cons (dt_var (i := 0) rfl) (dav_cons (dt_var (i := 6) rfl) (dav_cons (dt_var (i := 2) rfl) dav_nil))) ?_ rfl ⟨M, x, c', rfl, rfl, hM, ends_ok hM hS mem ho, tc, by omega, rfl, rfl⟩))
              intro q hq
              simp only [List.mem_cons, List.not_mem_nil, or_false] at hq
              rcases hq with rfl | rfl | rfl
              · exact .inl ⟨_, rfl⟩
              · exact .inl ⟨_, rfl⟩
              · exact .inr rfl
          · intro q hq
            simp only [List.mem_cons, List.not_mem_nil, or_false] at hq
            rcases hq with rfl | rfl
            · exact .inr rfl
            · exact .inl ⟨_, rfl⟩
        intro o
        cases o with
        | none => exact ⟨_, ds_if_f (db_b (dt_notN (d := .non) (dt_var (i := 7) rfl))) ds_next, rfl⟩
        | some v =>
          let tot := M.fee s mv.1 + v
          let g2 : Sl := [some (.dat (mapD T.C_Map M)), some (.dat (stD s)), some (.own 0), some (.dat (optD a.2)), some (.dat (mvD mv.1 mv.2)), some (.dat (.lst (es.map stO))), none, some (.dat (.int v)), some (.dat (.int tot))]
          refine ⟨g2.set 3 (some (.dat (optD (better a.2 tot)))), ds_if_t (db_b (dt_notN (d := .int v) (dt_var (i := 7) rfl))) (ds_seq (ss1 := g2) (m1 := [.dic (cs es.length)]) (ds_set (i := 8) (dt_i0 (dt_call (da_cons (dt_var rfl) (da_cons (dt_var rfl) (da_cons (dt_var rfl) da_nil))) ⟨M, s, mv.1, mv.2, rfl, feeOk hM hS mem, rfl⟩) (dt_var (i := 7) rfl))) (ds_set (i := 3) ?_)), rfl⟩
          cases q : a.2 with
          | none =>
            have h3 : g2[3]? = some (some (.dat .non)) := by
              show some (some (Vl.dat (optD a.2))) = _
              rw [q]
              rfl
            exact dt_if (b := true) (db_b (dt_isN (d := .non) (dt_var (i := 3) h3))) (dt_var (i := 8) rfl)
          | some l =>
            have h3 : g2[3]? = some (some (.dat (.int l))) := by
              show some (some (Vl.dat (optD a.2))) = _
              rw [q]
              rfl
            exact dt_if (b := false) (db_b (dt_isN (d := .int l) (dt_var (i := 3) h3))) (dt_min2 (da_cons (dt_var (i := 3) h3) (da_cons (dt_var (i := 8) rfl) da_nil)))
      · rw [whole]
        have few := (accTab mvs.length).few
        rw [whole] at few
        have h3 : (f mvs.length)[3]? = some (some (.dat (optD (mvs.foldl (addMove M n s) (c, first M s)).2))) := by
          rw [← whole]
          rfl
        exact ds_dput (n := 0) (k := s.row) (dt_var (i := 3) h3) (dt_var (i := 2) rfl) (dt_var (i := 1) rfl) rfl (Nat.lt_of_le_of_lt few (by decide))
end
end K2
end
section
set_option Elab.async false
set_option linter.all false
set_option maxRecDepth 100000
set_option maxHeartbeats 4000000
namespace K2
open PySem PySem.Spec PyProof.Rows L2 DL
/-! ### the least costs of a state -/
def MapD.table (M : MapD) (s : StD) : Costs := addC M 5 s []
def MapD.cost (M : MapD) (s : StD) : Option Int := costO (M.table s) (some s)
theorem table_tab {M : MapD} (hM : M.Ok) {s : StD} (hS : s.Ok M) : Tab (M.table s) := addC_tab hM 5 s [] hS Tab.nil
theorem table_has {M : MapD} (hM : M.Ok) {s : StD} : getI (M.table s) s.row = some (optD (M.cost s)) := by
  obtain ⟨v, hv⟩ := (addC_ok hM 5 s [] Tab.nil.good).2.2 (by decide)
  have e : M.cost s = v := costO_some hv
  rw [e]
  exact hv
section
variable {P : Program} {w : World} {K : PySem.W.Frag} {mg : Str → Option Value} {base : Heap} {k : Nat}
theorem ok_add_least_cost (T : Txt K mg) : FnOk P w K mg base CX0 11 T.a_add_least_cost T.fd_add_least_cost ["chart", "state", "costs"] (spM K 3 (R_addN T.C_Map 5)) := ok_addN T 5
def R_least (C : Addr) (ds : List D) (d : D) : Prop := ∃ M s, ds = [mapD C M, stD s] ∧ M.Ok ∧ s.Ok M ∧ d = .dic (M.table s)
theorem ok_least_costs (T : Txt K mg) : FnOk P w K mg base CX0 12 T.a_least_costs T.fd_least_costs ["chart", "state"] (spP K 2 (R_least T.C_Map)) := by
  refine fnP T.F_least_costs sc_least_costs rfl (fun cdv A outer s H E hr => ?_)
  refine ⟨_, (pss_cons (ps_set (i := 2) sc_least_costs.nd rfl (.inl rfl) pe_dnewT)
  (pss_cons (ps_expr (pe_call (ok_add_least_cost T) (hr.mono (by decide)) (by rfl) T.g_add_least_cost T.F_add_least_cost.kp T.b_add_least_cost .nil pass0 (pa_cons (pv 0) (pa_cons (pv 1) (pa_cons (pv 2) pa_nil)))))
  (pss_one (ps_ret (pv 2))))), ?_⟩
  rintro ds d ⟨M, s, rfl, hM, hS, rfl⟩ -
  have p0 := hS.p0
  have p5 := hM.p5
  refine ⟨[.gone], .inl ?_⟩
  refine ds_seq (ds_set (dt_dnew)) (ds_seq (ss1 := [some (.dat (mapD T.C_Map M)), some (.dat (stD s)), some (.own 0)]) (m1 := [.dic (M.table s)]) (ds_drop (dt_callM (p := 0) (m := .dic []) (d := .non) (dav_cons (dt_var (i := 0) rfl) (dav_cons (dt_var (i := 1) rfl) (dav_cons (dt_var (i := 2) rfl) dav_nil))) ?_ rfl ⟨M, s, [], rfl, rfl, hM, hS, Tab.nil, by omega, rfl, rfl⟩)) (ds_ret (dt_frzD (n := 0) (m1 := [.dic (M.table s)]) (dt_var (i := 2) rfl) rfl)))
  intro q hq
  simp only [List.mem_cons, List.not_mem_nil, or_false] at hq
  rcases hq with rfl | rfl | rfl
  · exact .inl ⟨_, rfl⟩
  · exact .inl ⟨_, rfl⟩
  · exact .inr rfl
def R_sure_cost (C : Addr) (ds : List D) (d : D) : Prop := ∃ M s, ds = [mapD C M, stD s] ∧ M.Ok ∧ s.Ok M ∧ d = optD (M.cost s)
theorem ok_sure_cost (T : Txt K mg) : FnOk P w K mg base CX0 13 T.a_sure_cost T.fd_sure_cost ["chart", "state"] (spP K 2 (R_sure_cost T.C_Map)) := by
  refine fnP T.F_sure_cost sc_sure_cost rfl (fun cdv A outer s H E hr => ?_)
  refine ⟨_, (pss_cons (ps_expr (pe_call (ok_check_map T) (hr.mono (by decide)) (by rfl) T.g_check_map T.F_check_map.kp T.b_check_map .nil pass0 (pa_cons (pv 0) pa_nil)))
  (pss_cons (ps_expr (pe_call (ok_check_state T) (hr.mono (by decide)) (by rfl) T.g_check_state T.F_check_state.kp T.b_check_state .nil pass0 (pa_cons (pv 0) (pa_cons (pv 1) pa_nil))))
  (pss_one (ps_ret (pe_dget (DL.rm1 hr) (pe_call (ok_least_costs T) (hr.mono (by decide)) (by rfl) T.g_least_costs T.F_least_costs.kp T.b_least_costs .nil pass0 (pa_cons (pv 0) (pa_cons (pv 1) pa_nil))) (pv 1) (fun _ _ => rfl)))))), ?_⟩
  rintro ds d ⟨M, s, rfl, hM, hS, rfl⟩ -
  refine .rt (ds_seq (ds_drop (dt_call (da_cons (dt_var rfl) da_nil) ⟨⟨M, rfl⟩, rfl⟩)) (ds_seq (ds_drop (dt_call (da_cons (dt_var rfl) (da_cons (dt_var rfl) da_nil)) ⟨⟨M, s, rfl, hS⟩, rfl⟩)) (ds_ret ?_)))
  exact dt_dget (k := s.row) (m := M.table s) (x := .dat (.dic (M.table s))) (dt_call (da_cons (dt_var rfl) (da_cons (dt_var rfl) da_nil)) ⟨M, s, rfl, hM, hS, rfl⟩) (dt_var (i := 1) rfl) .dat (table_has hM)
end
end K2
end
section
set_option Elab.async false
set_option linter.all false
set_option maxRecDepth 100000
set_option maxHeartbeats 4000000
namespace K2
open PySem PySem.Spec PyProof.Rows L2 DL
/-! ### Sure, Spoils, sure -/
def valO : D → Option Int
  | .int i => some i
  | _ => none
def hsOf (c : Costs) : List (List Int × Int) := c.filterMap fun p => (valO p.2).map fun i => (p.1, i)
def lev (most : Int) (d : D) : Int := match valO d with
  | none => most
  | some i => if i < most then i else most
def levAll (c : Costs) (most : Int) : List (List Int × Int) := c.map fun p => (p.1, lev most p.2)
def levOf (c : Costs) (most : Int) : List (List Int × Int) := (levAll c most).filter fun p => decide (0 < p.2)
def goneOf (c : Costs) : List (List Int) := (c.filter fun p => p.2.isN).map (·.1)
theorem getI_of_mem : ∀ {c : Costs}, (c.map (·.1)).Nodup → ∀ p ∈ c, getI c p.1 = some p.2
  | q :: c, nd, p, h => by
    have nd' := List.nodup_cons.mp nd
    show (if q.1 = p.1 then some q.2 else getI c p.1) = some p.2
    rcases List.mem_cons.mp h with e | e
    · subst e
      exact if_pos rfl
    · have ne : ¬ q.1 = p.1 := fun z => nd'.1 (by show q.1 ∈ _; rw [z]; exact List.mem_map_of_mem e)
      rw [if_neg ne]
      exact getI_of_mem nd'.2 p e
theorem Tab.val {c : Costs} (t : Tab c) {p : List Int × D} (h : p ∈ c) : ∃ v, p.2 = optD v := t.good _ _ (getI_of_mem t.nd p h)
theorem filt_true {α : Type} (l : List α) : l.filter (fun _ => true) = l := List.filter_eq_self.mpr fun _ _ => rfl
theorem hs_toD : ∀ {c : Costs}, (∀ p ∈ c, ∃ v, p.2 = optD v) → (c.filter fun p => !p.2.isN).map (fun p => (p.1, p.2)) = toD (hsOf c)
  | [], _ => rfl
  | p :: c, h => by
    obtain ⟨v, hv⟩ := h p List.mem_cons_self
    have ih := hs_toD (c := c) fun q hq => h q (List.mem_cons_of_mem _ hq)
    obtain ⟨r, d⟩ := p
    cases hv
    cases v with
    | none => exact ih
    | some i =>
      show (r, D.int i) :: _ = (r, D.int i) :: _
      exact congrArg _ ih
theorem lev_toD (c : Costs) (most : Int) : (c.filter fun _ => true).map (fun p => (p.1, D.int (lev most p.2))) = toD (levAll c most) := by
  rw [filt_true]
  unfold toD levAll
  rw [List.map_map]
  rfl
theorem same_toD (hs : List (List Int × Int)) : ((toD hs).filter fun _ => true).map (fun p => (p.1, p.2)) = toD hs := by
  rw [filt_true]
  exact List.map_id _
def posD : D → Bool
  | .int i => decide (0 < i)
  | _ => false
theorem pos_toD (hs : List (List Int × Int)) : ((toD hs).filter fun p => posD p.2).map (fun p => (p.1, p.2)) = toD (hs.filter fun p => decide (0 < p.2)) := by
  unfold toD
  rw [List.filter_map]
  show ((hs.filter _).map _).map id = _
  rw [List.map_id]
  rfl
theorem toD_keys (hs : List (List Int × Int)) : (toD hs).map (·.1) = hs.map (·.1) := by
  unfold toD
  rw [List.map_map]
  rfl
theorem toD_len (hs : List (List Int × Int)) : (toD hs).length = hs.length := List.length_map _
theorem lev_keys (c : Costs) (most : Int) : (levAll c most).map (·.1) = c.map (·.1) := by
  unfold levAll
  rw [List.map_map]
  rfl
def sureD (C : Addr) (cost : Int) (hs ls : List (List Int × Int)) : D := .obj C [("cost", .int cost), ("heights", .dic (toD hs)), ("levels", .dic (toD ls))]
def spoilsD (C : Addr) (rows : List (List Int)) : D := .obj C [("states", .rls (rows.map rowD))]
/-- a dict of ints whose keys are states of the map, each once -/
structure Dct (M : MapD) (hs : List (List Int × Int)) : Prop where
  keyed : Keyed M hs
  nd : (hs.map (·.1)).Nodup
theorem Dct.few {M : MapD} (hM : M.Ok) {hs : List (List Int × Int)} (h : Dct M hs) : hs.length ≤ 525 := by
  have n := nodup_len (hs.map (·.1)) rows4 h.nd fun x hx => by
    obtain ⟨p, hp, rfl⟩ := List.mem_map.mp hx
    exact keyed_in hM h.keyed p hp
  rw [List.length_map] at n
  exact Nat.le_trans n (by decide +kernel)
def sureShows (M : MapD) (s : StD) (cost : Int) (hs ls : List (List Int × Int)) : Bool := match lookI hs s.row with
  | none => false
  | some h => !decide (cost < h) && (!(decide (0 < cost) && decide ((lookI ls s.row).getD 0 < cost)) && ((hs.all fun p => heightOk M hs (ofRow p.1)) && (ls.all fun p => !levelPos ls p.1 || levelOk M ls (ofRow p.1))))
def sureOf (CU CP : Addr) (M : MapD) (s : StD) : D := match M.cost s with
  | none => spoilsD CP (goneOf (M.table s))
  | some v => sureD CU v (hsOf (M.table s)) (levOf (M.table s) v)
section
variable {P : Program} {w : World} {K : PySem.W.Frag} {mg : Str → Option Value} {base : Heap} {k : Nat}
def R_levels_up (ds : List D) (d : D) : Prop := ∃ (c : Costs) (most : Int), ds = [.dic c, .int most] ∧ Tab c ∧ d = .dic (toD (levOf c most))
theorem ok_levels_up_to (T : Txt K mg) : FnOk P w K mg base CX0 2 T.a_levels_up_to T.fd_levels_up_to ["costs", "most"] (spP K 2 R_levels_up) := by
  refine fnP T.F_levels_up_to sc_levels_up_to rfl (fun cdv A outer s H E hr => ?_)
  refine ⟨_, (pss_cons (ps_set (i := 2) sc_levels_up_to.nd rfl (.inr rfl) (pe_lk (pe_dcT (own := [("state", 3)]) rfl sc_levels_up_to.nd hr.units0 (pi_keys (pv 0)) (blkOk_by (own := [("state", 3)]) (N := ["costs", "most", "levels", "state"]) (sc := defScope s_levels_up_to) (by decide +kernel)) (fun _ _ _ _ _ => ⟨(pg_name (i := 3) sc_levels_up_to.nd rfl (.inl rfl)), pts_nil, (pv 3), (pe_ifExp (pt_cmp (pc_isN (pe_dget (DL.rm1 hr) (pv 0) (pv 3) (fun _ _ => rfl)))) (pv 1) (pe_callB (call_min2 rfl) (by rfl) T.n_min (by decide +kernel) (pa_cons (pv 1) (pa_cons (pe_dget (DL.rm1 hr) (pv 0) (pv 3) (fun _ _ => rfl)) pa_nil))))⟩))))
  (pss_one (ps_ret (pe_lk (pe_dcT (own := [("state", 3)]) rfl sc_levels_up_to.nd hr.units0 (pi_keys (pv 2)) (blkOk_by (own := [("state", 3)]) (N := ["costs", "most", "levels", "state"]) (sc := defScope s_levels_up_to) (by decide +kernel)) (fun _ _ _ _ _ => ⟨(pg_name (i := 3) sc_levels_up_to.nd rfl (.inl rfl)), (pts_one (pt_cmpR op_gt (pe_dget (DL.rm1 hr) (pv 2) (pv 3) (fun _ _ => rfl)) pe_int (nomark _))), (pv 3), (pe_dget (DL.rm1 hr) (pv 2) (pv 3) (fun _ _ => rfl))⟩)))))), ?_⟩
  rintro ds d ⟨c, most, rfl, t, rfl⟩ -
  have few := t.few
  let s1 : Sl := [some (.dat (.dic c)), some (.dat (.int most)), some (.dat (.dic (toD (levAll c most)))), none]
  refine .rt (ds_seq (ss1 := s1) (m1 := []) (ds_set (lev_toD c most ▸ dt_dcKeys (i := 0) (j := 3) (m := c) rfl (noLk_of rfl) (Nat.le_of_ble_eq_true rfl) t.nd (by omega) (fun _ => true) (fun p => .int (lev most p.2)) fun p hp => ⟨db_yes, fun _ => ?_⟩)) (ds_ret ?_))
  · obtain ⟨v, hv⟩ := t.val hp
    have g := getI_of_mem t.nd p hp
    have get : DT K (tDGet (tVar 0) (tVar 3)) [some (.lk c), some (.dat (.int most)), none, some (.dat (rowD p.1))] [] (.dat p.2) [] := dt_dget (k := p.1) (m := c) (x := .lk c) (dt_var rfl) (dt_var rfl) .lk g
    rw [hv] at get ⊢
    cases v with
    | none => exact dt_if (b := true) (db_b (dt_isN (d := .non) get)) (dt_var (i := 1) rfl)
    | some i => exact dt_if (b := false) (db_b (dt_isN (d := .int i) get)) (dt_min2 (da_cons (dt_var (i := 1) rfl) (da_cons get da_nil)))
  · have nd2 : ((toD (levAll c most)).map (·.1)).Nodup := by
      rw [toD_keys, lev_keys]
      exact t.nd
    have l2 : (toD (levAll c most)).length < 16777216 := by
      rw [toD_len]
      unfold levAll
      rw [List.length_map]
      omega
    unfold levOf
    rw [← pos_toD]
    refine dt_dcKeys (i := 2) (j := 3) (m := toD (levAll c most)) rfl (noLk_of rfl) (Nat.le_of_ble_eq_true rfl) nd2 l2 (fun p => posD p.2) (fun p => p.2) fun p hp => ?_
    have g := getI_of_mem nd2 p hp
    have get : DT K (tDGet (tVar 2) (tVar 3)) [some (.dat (.dic c)), some (.dat (.int most)), some (.lk (toD (levAll c most))), some (.dat (rowD p.1))] [] (.dat p.2) [] := dt_dget (k := p.1) (m := toD (levAll c most)) (x := .lk (toD (levAll c most))) (dt_var rfl) (dt_var rfl) .lk g
    refine ⟨?_, fun _ => get⟩
    obtain ⟨q, -, rfl⟩ := List.mem_map.mp hp
    exact db_test (dt_i0b get dt_int)
/-- a dict's copy by a comprehension -/
theorem dt_copyD {ss : Sl} {mem : List Mc} {i j : Nat} {hs : List (List Int × Int)} (hi : ss[i]? = some (some (.dat (.dic (toD hs))))) (nl : NoLk ss) (hj : j < ss.length) (hij : j ≠ i) (nd : (hs.map (·.1)).Nodup) (few : hs.length ≤ 1000) :
    DT K (tLkE (tDcT (iKeys (tVar i)) (gName j) tYes (tVar j) (tDGet (tVar i) (tVar j)) [j])) ss mem (.dat (.dic (toD hs))) mem := by
  have nd2 : ((toD hs).map (·.1)).Nodup := by rw [toD_keys]; exact nd
  have h := dt_dcKeys (K := K) (mem := mem) (tt := tYes) (tv := tDGet (tVar i) (tVar j)) hi nl hj nd2 (by rw [toD_len]; omega) (fun _ => true) (fun p => p.2) fun p hp => ⟨db_yes, fun _ => by
    have hil := (List.getElem?_eq_some_iff.mp hi).1
    refine dt_dget (k := p.1) (m := toD hs) (x := .lk (toD hs)) (dt_var ?_) (dt_var (List.getElem?_set_self (by rw [List.length_set, List.length_set]; exact hj))) .lk (getI_of_mem nd2 p hp)
    rw [List.getElem?_set_ne hij, List.getElem?_set_ne hij, List.getElem?_set_self hil]⟩
  rw [same_toD] at h
  exact h
theorem ok_Sure___init__ (T : Txt K mg) : FnOk P w K mg base CX0 1 T.a_Sure___init__ T.fd_Sure___init__ ["self", "cost", "heights", "levels"] (spO K 4 fun m ds d m' => ∃ (cost : Int) (hs ls : List (List Int × Int)), m = .obj T.C_Sure [] ∧ ds = [.int cost, .dic (toD hs), .dic (toD ls)] ∧ (hs.map (·.1)).Nodup ∧ (ls.map (·.1)).Nodup ∧ hs.length ≤ 1000 ∧ ls.length ≤ 1000 ∧ d = .non ∧ m' = .obj T.C_Sure [("cost", .int cost), ("heights", .dic (toD hs)), ("levels", .dic (toD ls))]) := by
  refine fnO T.F_Sure___init__ sc_Sure___init__ rfl (fun cdv A outer s H E hr => ?_)
  refine ⟨_, (pss_cons (ps_fld (pv 0) (pv 1) rfl)
  (pss_cons (ps_fld (pv 0) (pe_lk (pe_dcT (own := [("state", 4)]) rfl sc_Sure___init__.nd hr.units0 (pi_keys (pv 2)) (blkOk_by (own := [("state", 4)]) (N := ["self", "cost", "heights", "levels", "state"]) (sc := defScope s_Sure___init__) (by decide +kernel)) (fun _ _ _ _ _ => ⟨(pg_name (i := 4) sc_Sure___init__.nd rfl (.inl rfl)), pts_nil, (pv 4), (pe_dget (DL.rm1 hr) (pv 2) (pv 4) (fun _ _ => rfl))⟩))) rfl)
  (pss_one (ps_fld (pv 0) (pe_lk (pe_dcT (own := [("state", 4)]) rfl sc_Sure___init__.nd hr.units0 (pi_keys (pv 3)) (blkOk_by (own := [("state", 4)]) (N := ["self", "cost", "heights", "levels", "state"]) (sc := defScope s_Sure___init__) (by decide +kernel)) (fun _ _ _ _ _ => ⟨(pg_name (i := 4) sc_Sure___init__.nd rfl (.inl rfl)), pts_nil, (pv 4), (pe_dget (DL.rm1 hr) (pv 3) (pv 4) (fun _ _ => rfl))⟩))) rfl)))), ?_⟩
  rintro m ds d m' ⟨cost, hs, ls, rfl, rfl, n1, n2, f1, f2, rfl, rfl⟩ -
  let s0 : Sl := [some (.own 0), some (.dat (.int cost)), some (.dat (.dic (toD hs))), some (.dat (.dic (toD ls))), none]
  refine .nx (s := s0) ?_
  refine ds_seq (ss1 := s0) (m1 := [.obj T.C_Sure [("cost", .int cost)]]) (ds_fld (n := 0) (m2 := [.obj T.C_Sure []]) (gs := []) (dt_var (i := 1) rfl) (dt_var (i := 0) rfl) rfl T.T_Sure.cl T.na_Sure_cost (Nat.le_of_ble_eq_true rfl)) ?_
  refine ds_seq (ss1 := s0) (m1 := [.obj T.C_Sure [("cost", .int cost), ("heights", .dic (toD hs))]]) (ds_fld (n := 0) (m2 := [.obj T.C_Sure [("cost", .int cost)]]) (dt_copyD (ss := s0) (i := 2) (j := 4) rfl (noLk_of rfl) (Nat.le_of_ble_eq_true rfl) (by decide) n1 f1) (dt_var (i := 0) rfl) rfl T.T_Sure.cl T.na_Sure_heights (Nat.le_of_ble_eq_true rfl)) ?_
  exact ds_fld (n := 0) (m2 := [.obj T.C_Sure [("cost", .int cost), ("heights", .dic (toD hs))]]) (dt_copyD (ss := s0) (i := 3) (j := 4) rfl (noLk_of rfl) (Nat.le_of_ble_eq_true rfl) (by decide) n2 f2) (dt_var (i := 0) rfl) rfl T.T_Sure.cl T.na_Sure_levels (Nat.le_of_ble_eq_true rfl)
theorem ok_Spoils___init__ (T : Txt K mg) : FnOk P w K mg base CX0 1 T.a_Spoils___init__ T.fd_Spoils___init__ ["self", "states"] (spO K 2 fun m ds d m' => ∃ rows : List (List Int), m = .obj T.C_Spoils [] ∧ ds = [.lst (rows.map rowD)] ∧ d = .non ∧ m' = .obj T.C_Spoils [("states", .rls (rows.map rowD))]) := by
  refine fnO T.F_Spoils___init__ sc_Spoils___init__ rfl (fun cdv A outer s H E hr => ?_)
  refine ⟨_, (pss_one (ps_fld (pv 0) (pe_callTy (callListOf K) (by rfl) T.n_list (by decide +kernel) (pa_cons (pv 1) pa_nil)) rfl)), ?_⟩
  rintro m ds d m' ⟨rows, rfl, rfl, rfl, rfl⟩ -
  exact .nx (s := [some (.own 0), some (.dat (.lst (rows.map rowD)))]) (ds_fld (n := 0) (m2 := [.obj T.C_Spoils []]) (gs := []) (dt_listR (dt_var (i := 1) rfl)) (dt_var (i := 0) rfl) rfl T.T_Spoils.cl T.na_Spoils_states (Nat.le_of_ble_eq_true rfl))
theorem hs_cons (r : List Int) (d : D) (c : Costs) : hsOf ((r, d) :: c) = match valO d with | none => hsOf c | some i => (r, i) :: hsOf c := by
  unfold hsOf
  rw [List.filterMap_cons]
  cases valO d <;> rfl
theorem hs_sub : ∀ (c : Costs), ∃ l, (hsOf c).map (·.1) = l ∧ l.Sublist (c.map (·.1))
  | [] => ⟨[], rfl, .slnil⟩
  | (r, d) :: c => by
    obtain ⟨l, e, s⟩ := hs_sub c
    rw [hs_cons]
    cases valO d with
    | none => exact ⟨l, e, s.cons _⟩
    | some i => exact ⟨r :: l, congrArg (r :: ·) e, s.cons₂ _⟩
theorem hs_nd {c : Costs} (t : Tab c) : ((hsOf c).map (·.1)).Nodup := by
  obtain ⟨l, e, s⟩ := hs_sub c
  rw [e]
  exact s.nodup t.nd
theorem lev_nd {c : Costs} (t : Tab c) (most : Int) : ((levOf c most).map (·.1)).Nodup := by
  have s : ((levOf c most).map (·.1)).Sublist ((levAll c most).map (·.1)) := (List.filter_sublist).map _
  rw [lev_keys] at s
  exact s.nodup t.nd
theorem hs_few {c : Costs} (t : Tab c) : (hsOf c).length ≤ 1000 := by
  have := t.few
  have := List.length_filterMap_le (fun p : List Int × D => (valO p.2).map fun i => (p.1, i)) c
  show (c.filterMap _).length ≤ 1000
  omega
theorem lev_few {c : Costs} (t : Tab c) (most : Int) : (levOf c most).length ≤ 1000 := by
  have := t.few
  have h := List.length_filter_le (fun p : List Int × Int => decide (0 < p.2)) (levAll c most)
  have e : (levAll c most).length = c.length := List.length_map _
  show ((levAll c most).filter _).length ≤ 1000
  omega
def R_heights_from (ds : List D) (d : D) : Prop := ∃ c : Costs, ds = [.dic c] ∧ Tab c ∧ d = .dic (toD (hsOf c))
theorem ok_heights_from (T : Txt K mg) : FnOk P w K mg base CX0 2 T.a_heights_from T.fd_heights_from ["costs"] (spP K 1 R_heights_from) := by
  refine fnP T.F_heights_from sc_heights_from rfl (fun cdv A outer s H E hr => ?_)
  refine ⟨_, (pss_one (ps_ret (pe_lk (pe_dcT (own := [("state", 1)]) rfl sc_heights_from.nd hr.units0 (pi_keys (pv 0)) (blkOk_by (own := [("state", 1)]) (N := ["costs", "state"]) (sc := defScope s_heights_from) (by decide +kernel)) (fun _ _ _ _ _ => ⟨(pg_name (i := 1) sc_heights_from.nd rfl (.inl rfl)), (pts_one (pt_cmp (pc_notN (pe_dget (DL.rm1 hr) (pv 0) (pv 1) (fun _ _ => rfl))))), (pv 1), (pe_dget (DL.rm1 hr) (pv 0) (pv 1) (fun _ _ => rfl))⟩))))), ?_⟩
  rintro ds d ⟨c, rfl, t, rfl⟩ -
  have few := t.few
  have get : ∀ (sl : Sl) (p : List Int × D), p ∈ c → sl[0]? = some (some (.lk c)) → sl[1]? = some (some (.dat (rowD p.1))) → DT K (tDGet (tVar 0) (tVar 1)) sl [] (.dat p.2) [] := fun sl p hp h2 h5 => dt_dget (k := p.1) (m := c) (x := .lk c) (dt_var h2) (dt_var h5) .lk (getI_of_mem t.nd p hp)
  have st := dt_dcKeys (K := K) (tt := tB (tNotN (tDGet (tVar 0) (tVar 1)))) (tv := tDGet (tVar 0) (tVar 1)) (ss := [some (.dat (.dic c)), none]) (mem := []) (i := 0) (j := 1) (m := c) rfl (noLk_of rfl) (Nat.le_of_ble_eq_true rfl) t.nd (by omega) (fun p => !p.2.isN) (fun p => p.2) (fun p hp => ⟨db_b (dt_notN (get _ p hp rfl rfl)), fun _ => get _ p hp rfl rfl⟩)
  rw [hs_toD fun p hp => t.val hp] at st
  exact .rt (ds_ret st)
def R_states_without (ds : List D) (d : D) : Prop := ∃ c : Costs, ds = [.dic c] ∧ Tab c ∧ d = .lst ((goneOf c).map rowD)
theorem ok_states_without (T : Txt K mg) : FnOk P w K mg base CX0 2 T.a_states_without T.fd_states_without ["costs"] (spP K 1 R_states_without) := by
  refine fnP T.F_states_without sc_states_without rfl (fun cdv A outer s H E hr => ?_)
  refine ⟨_, (pss_one (ps_ret (pe_lk (pe_lc (own := [("state", 1)]) rfl sc_states_without.nd (pi_keys (pv 0)) (blkOk_by (own := [("state", 1)]) (N := ["costs", "state"]) (sc := defScope s_states_without) (by decide +kernel)) (fun _ _ _ _ _ => (pg_name (i := 1) sc_states_without.nd rfl (.inl rfl))) (fun _ _ _ _ _ => (pts_one (pt_cmp (pc_isN (pe_dget (DL.rm1 hr) (pv 0) (pv 1) (fun _ _ => rfl)))))) (fun _ _ _ _ _ => (pv 1)))))), ?_⟩
  rintro ds d ⟨c, rfl, t, rfl⟩ -
  have few := t.few
  have get : ∀ (sl : Sl) (p : List Int × D), p ∈ c → sl[0]? = some (some (.lk c)) → sl[1]? = some (some (.dat (rowD p.1))) → DT K (tDGet (tVar 0) (tVar 1)) sl [] (.dat p.2) [] := fun sl p hp h2 h5 => dt_dget (k := p.1) (m := c) (x := .lk c) (dt_var h2) (dt_var h5) .lk (getI_of_mem t.nd p hp)
  have e : (goneOf c).map rowD = (c.filter fun p => p.2.isN).map fun p => rowD p.1 := by
    unfold goneOf
    rw [List.map_map]
    rfl
  rw [e]
  exact .rt (ds_ret (dt_lcKeys (i := 0) (j := 1) (m := c) rfl (noLk_of rfl) (by omega) (fun p => p.2.isN) (fun p => rowD p.1) fun p hp => ⟨db_b (dt_isN (get _ p hp rfl rfl)), fun _ => dt_var (i := 1) rfl⟩))
def R_sure (CU CP : Addr) (C : Addr) (ds : List D) (d : D) : Prop := ∃ M s, ds = [mapD C M, stD s] ∧ M.Ok ∧ s.Ok M ∧ d = sureOf CU CP M s
theorem ok_sure (T : Txt K mg) : FnOk P w K mg base CX0 13 T.a_sure T.fd_sure ["chart", "state"] (spP K 2 (R_sure T.C_Sure T.C_Spoils T.C_Map)) := by
  refine fnP T.F_sure sc_sure rfl (fun cdv A outer s H E hr => ?_)
  refine ⟨_, (pss_cons (ps_expr (pe_call (ok_check_map T) (hr.mono (by decide)) (by rfl) T.g_check_map T.F_check_map.kp T.b_check_map .nil pass0 (pa_cons (pv 0) pa_nil)))
  (pss_cons (ps_expr (pe_call (ok_check_state T) (hr.mono (by decide)) (by rfl) T.g_check_state T.F_check_state.kp T.b_check_state .nil pass0 (pa_cons (pv 0) (pa_cons (pv 1) pa_nil))))
  (pss_cons (ps_set (i := 2) sc_sure.nd rfl (.inl rfl) (pe_call (ok_least_costs T) (hr.mono (by decide)) (by rfl) T.g_least_costs T.F_least_costs.kp T.b_least_costs .nil pass0 (pa_cons (pv 0) (pa_cons (pv 1) pa_nil))))
  (pss_cons (ps_set (i := 3) sc_sure.nd rfl (.inl rfl) (pe_dget (DL.rm1 hr) (pv 2) (pv 1) (fun _ _ => rfl)))
  (pss_cons (ps_if (pt_cmp (pc_isN (pv 3))) (pss_one (ps_ret (pe_make T.mk_Spoils (ok_Spoils___init__ T) (hr.mono (by decide)) (by rfl) T.g_Spoils T.b_Spoils___init__ .nil pass0 (pa_cons (pe_call (ok_states_without T) (hr.mono (by decide)) (by rfl) T.g_states_without T.F_states_without.kp T.b_states_without .nil pass0 (pa_cons (pv 2) pa_nil)) pa_nil)))) pss_nil)
  (pss_one (ps_ret (pe_make T.mk_Sure (ok_Sure___init__ T) (hr.mono (by decide)) (by rfl) T.g_Sure T.b_Sure___init__ .nil pass0 (pa_cons (pv 3) (pa_cons (pe_call (ok_heights_from T) (hr.mono (by decide)) (by rfl) T.g_heights_from T.F_heights_from.kp T.b_heights_from .nil pass0 (pa_cons (pv 2) pa_nil)) (pa_cons (pe_call (ok_levels_up_to T) (hr.mono (by decide)) (by rfl) T.g_levels_up_to T.F_levels_up_to.kp T.b_levels_up_to .nil pass0 (pa_cons (pv 2) (pa_cons (pv 3) pa_nil))) pa_nil))))))))))), ?_⟩
  rintro ds d ⟨M, s, rfl, hM, hS, rfl⟩ -
  have t := table_tab hM hS
  have has := table_has hM (s := s)
  have few := t.few
  unfold sureOf
  let c := M.table s
  have few' : c.length ≤ 525 := few
  refine .rt (ds_seq (ds_drop (dt_call (da_cons (dt_var rfl) da_nil) ⟨⟨M, rfl⟩, rfl⟩)) (ds_seq (ds_drop (dt_call (da_cons (dt_var rfl) (da_cons (dt_var rfl) da_nil)) ⟨⟨M, s, rfl, hS⟩, rfl⟩)) ?_))
  refine ds_seq (ds_set (dt_call (da_cons (dt_var rfl) (da_cons (dt_var rfl) da_nil)) ⟨M, s, rfl, hM, hS, rfl⟩)) ?_
  refine ds_seq (ds_set (dt_dget (k := s.row) (m := c) (x := .dat (.dic c)) (dt_var (i := 2) rfl) (dt_var (i := 1) rfl) .dat has)) ?_
  cases q : M.cost s with
  | none => exact ds_stop (ds_if_t (db_b (dt_isN (d := .non) (dt_var (i := 3) rfl))) (ds_ret (dt_make (da_cons (dt_call (da_cons (dt_var (i := 2) rfl) da_nil) ⟨c, rfl, t, rfl⟩) da_nil) ⟨goneOf c, rfl, rfl, rfl, rfl⟩)))
  | some v =>
    refine ds_seq (ds_if_f (db_b (dt_isN (d := .int v) (dt_var (i := 3) rfl))) ds_next) ?_
    exact ds_ret (dt_make (da_cons (dt_var (i := 3) rfl) (da_cons (dt_call (da_cons (dt_var (i := 2) rfl) da_nil) ⟨c, rfl, t, rfl⟩) (da_cons (dt_call (da_cons (dt_var (i := 2) rfl) (da_cons (dt_var (i := 3) rfl) da_nil)) ⟨c, v, rfl, t, rfl⟩) da_nil))) ⟨v, hsOf c, levOf c v, rfl, rfl, hs_nd t, lev_nd t v, hs_few t, lev_few t v, rfl, rfl⟩)
end
end K2
end
section
set_option Elab.async false
set_option linter.all false
set_option maxRecDepth 100000
set_option maxHeartbeats 4000000
namespace K2
open PySem PySem.Spec PyProof.Rows L2 DL
section
variable {P : Program} {w : World} {K : PySem.W.Frag} {mg : Str → Option Value} {base : Heap} {k : Nat}
theorem sureShows_eq (M : MapD) (s : StD) (cost : Int) (hs ls : List (List Int × Int)) : sureShows M s cost hs ls = (within hs cost (some s) && (reached ls s cost && ((hs.all fun p => heightOk M hs (ofRow p.1)) && (ls.all fun p => !levelPos ls p.1 || levelOk M ls (ofRow p.1))))) := by
  unfold sureShows within reached
  dsimp only
  cases lookI hs s.row with
  | none => rfl
  | some h =>
    dsimp only
    generalize (lookI ls s.row).getD 0 = v
    generalize ((hs.all fun p => heightOk M hs (ofRow p.1)) && (ls.all fun p => !levelPos ls p.1 || levelOk M ls (ofRow p.1))) = rest
    have e1 : (!decide (cost < h)) = decide (h ≤ cost) := by
      rw [Bool.eq_iff_iff]
      simp
    have e2 : (!(decide (0 < cost) && decide (v < cost))) = (decide (cost ≤ 0) || decide (v ≥ cost)) := by
      rw [Bool.eq_iff_iff]
      simp
    rw [e1, e2]
def R_sure_shows (CU C : Addr) (ds : List D) (d : D) : Prop := ∃ (M : MapD) (s : StD) (cost : Int) (hs ls : List (List Int × Int)), ds = [sureD CU cost hs ls, mapD C M, stD s] ∧ M.Ok ∧ s.Ok M ∧ Dct M hs ∧ Dct M ls ∧ d = .bl (sureShows M s cost hs ls)
theorem ok_Sure_shows (T : Txt K mg) : FnOk P w K mg base CX0 9 T.a_Sure_shows T.fd_Sure_shows ["self", "chart", "state"] (spP K 3 (R_sure_shows T.C_Sure T.C_Map)) := by
  refine fnP T.F_Sure_shows sc_Sure_shows rfl (fun cdv A outer s H E hr => ?_)
  refine ⟨_, (pss_cons (ps_expr (pe_call (ok_check_map T) (hr.mono (by decide)) (by rfl) T.g_check_map T.F_check_map.kp T.b_check_map .nil pass0 (pa_cons (pv 1) pa_nil)))
  (pss_cons (ps_expr (pe_call (ok_check_state T) (hr.mono (by decide)) (by rfl) T.g_check_state T.F_check_state.kp T.b_check_state .nil pass0 (pa_cons (pv 1) (pa_cons (pv 2) pa_nil))))
  (pss_cons (ps_if (PW.pt (pw_or (pt_not (pt_val (pe_call (ok_is_within T) (hr.mono (by decide)) (by rfl) T.g_is_within T.F_is_within.kp T.b_is_within .nil pass0 (pa_cons (peFld K (pv 0)) (pa_cons (pv 2) (pa_cons (peFld K (pv 0)) pa_nil)))))) (pw_or1 (pt_not (pt_val (pe_call (ok_is_reached T) (hr.mono (by decide)) (by rfl) T.g_is_reached T.F_is_reached.kp T.b_is_reached .nil pass0 (pa_cons (peFld K (pv 0)) (pa_cons (pv 2) (pa_cons (peFld K (pv 0)) pa_nil))))))))) (pss_one (ps_ret pe_bl)) pss_nil)
  (pss_one (ps_ret (pe_and (pe_call (ok_heights_hold T) (hr.mono (by decide)) (by rfl) T.g_heights_hold T.F_heights_hold.kp T.b_heights_hold .nil pass0 (pa_cons (pv 1) (pa_cons (peFld K (pv 0)) pa_nil))) (pe_one (pe_call (ok_levels_hold T) (hr.mono (by decide)) (by rfl) T.g_levels_hold T.F_levels_hold.kp T.b_levels_hold .nil pass0 (pa_cons (pv 1) (pa_cons (peFld K (pv 0)) pa_nil)))))))))), ?_⟩
  rintro ds d ⟨M, s, cost, hs, ls, rfl, hM, hS, dh, dl, rfl⟩ -
  have fh := dh.few hM
  have fl := dl.few hM
  let sl : Sl := [some (.dat (sureD T.C_Sure cost hs ls)), some (.dat (mapD T.C_Map M)), some (.dat (stD s))]
  have fc : DT K (tFld K (tVar 0) "cost") sl [] (.dat (.int cost)) [] := dt_fld (dt_var rfl) T.T_Sure.cl T.na_Sure_cost rfl
  have fhs : DT K (tFld K (tVar 0) "heights") sl [] (.dat (.dic (toD hs))) [] := dt_fld (dt_var rfl) T.T_Sure.cl T.na_Sure_heights rfl
  have fls : DT K (tFld K (tVar 0) "levels") sl [] (.dat (.dic (toD ls))) [] := dt_fld (dt_var rfl) T.T_Sure.cl T.na_Sure_levels rfl
  have wi : DT K (tCall (spP K 3 R_is_within) [] E0 (tCons (tFld K (tVar 0) "heights") (tCons (tVar 2) (tCons (tFld K (tVar 0) "cost") tNil)))) sl [] (.dat (.bl (within hs cost (some s)))) [] := dt_call (da_cons fhs (da_cons (dt_var (i := 2) rfl) (da_cons fc da_nil))) ⟨hs, s, cost, rfl, rfl⟩
  have re : DT K (tCall (spP K 3 R_is_reached) [] E0 (tCons (tFld K (tVar 0) "levels") (tCons (tVar 2) (tCons (tFld K (tVar 0) "cost") tNil)))) sl [] (.dat (.bl (reached ls s cost))) [] := dt_call (da_cons fls (da_cons (dt_var (i := 2) rfl) (da_cons fc da_nil))) ⟨ls, s, cost, rfl, rfl⟩
  rw [sureShows_eq]
  refine .rt (ds_seq (ds_drop (dt_call (da_cons (dt_var (i := 1) rfl) da_nil) ⟨⟨M, rfl⟩, rfl⟩)) (ds_seq (ds_drop (dt_call (da_cons (dt_var (i := 1) rfl) (da_cons (dt_var (i := 2) rfl) da_nil)) ⟨⟨M, s, rfl, hS⟩, rfl⟩)) ?_))
  have c := db_or (db_not (db_test wi)) fun _ => db_not (db_test re)
  cases q1 : within hs cost (some s) with
  | false =>
    rw [q1] at c
    exact ds_stop (ds_if_t c (ds_ret dt_bl))
  | true =>
    cases q2 : reached ls s cost with
    | false =>
      rw [q1, q2] at c
      exact ds_stop (ds_if_t c (ds_ret dt_bl))
    | true =>
      rw [q1, q2] at c
      refine ds_seq (ds_if_f c ds_next) (ds_ret ?_)
      show DT K _ _ _ (.dat (.bl ((hs.all fun p => heightOk M hs (ofRow p.1)) && (ls.all fun p => !levelPos ls p.1 || levelOk M ls (ofRow p.1))))) _
      exact dt_andV (dt_call (da_cons (dt_var (i := 1) rfl) (da_cons fhs da_nil)) ⟨M, hs, rfl, hM, dh.keyed, by omega, rfl⟩) fun _ => dt_call (da_cons (dt_var (i := 1) rfl) (da_cons fls da_nil)) ⟨M, ls, rfl, hM, dl.keyed, by omega, rfl⟩
def spoilsShows (M : MapD) (s : StD) (rows : List (List Int)) : Bool := decide (s.row ∈ rows) && shut M (heldOf rows)
def R_spoils_shows (CP C : Addr) (ds : List D) (d : D) : Prop := ∃ (M : MapD) (s : StD) (rows : List (List Int)), ds = [spoilsD CP rows, mapD C M, stD s] ∧ M.Ok ∧ s.Ok M ∧ (∀ r ∈ rows, (ofRow r).Ok M ∧ r = (ofRow r).row) ∧ rows.length ≤ 1000 ∧ d = .bl (spoilsShows M s rows)
theorem ok_Spoils_shows (T : Txt K mg) : FnOk P w K mg base CX0 9 T.a_Spoils_shows T.fd_Spoils_shows ["self", "chart", "state"] (spP K 3 (R_spoils_shows T.C_Spoils T.C_Map)) := by
  refine fnP T.F_Spoils_shows sc_Spoils_shows rfl (fun cdv A outer s H E hr => ?_)
  refine ⟨_, (pss_cons (ps_expr (pe_call (ok_check_map T) (hr.mono (by decide)) (by rfl) T.g_check_map T.F_check_map.kp T.b_check_map .nil pass0 (pa_cons (pv 1) pa_nil)))
  (pss_cons (ps_expr (pe_call (ok_check_state T) (hr.mono (by decide)) (by rfl) T.g_check_state T.F_check_state.kp T.b_check_state .nil pass0 (pa_cons (pv 1) (pa_cons (pv 2) pa_nil))))
  (pss_one (ps_ret (pe_and (pe_cmpR (opInD K (DL.room_in hr)) (pv 2) (peFld K (pv 0)) (by rfl)) (pe_one (pe_call (ok_states_spoil T) (hr.mono (by decide)) (by rfl) T.g_states_spoil T.F_states_spoil.kp T.b_states_spoil .nil pass0 (pa_cons (pv 1) (pa_cons (peFld K (pv 0)) pa_nil))))))))), ?_⟩
  rintro ds d ⟨M, s, rows, rfl, hM, hS, hk, few, rfl⟩ -
  let sl : Sl := [some (.dat (spoilsD T.C_Spoils rows)), some (.dat (mapD T.C_Map M)), some (.dat (stD s))]
  have fs : DT K (tFld K (tVar 0) "states") sl [] (.dat (.lst (rows.map rowD))) [] := dt_rls (dt_fld (dt_var rfl) T.T_Spoils.cl T.na_Spoils_states rfl)
  have inn := dt_inD (n := 2) (d := rowD s.row) (K := K) (ss := sl) (mem := []) (ta := tVar 2) (dt_var (i := 2) rfl) fs (flat_row s.row 1) (flat_rows rows 0) (by decide)
  rw [rows_any] at inn
  refine .rt (ds_seq (ds_drop (dt_call (da_cons (dt_var (i := 1) rfl) da_nil) ⟨⟨M, rfl⟩, rfl⟩)) (ds_seq (ds_drop (dt_call (da_cons (dt_var (i := 1) rfl) (da_cons (dt_var (i := 2) rfl) da_nil)) ⟨⟨M, s, rfl, hS⟩, rfl⟩)) (ds_ret ?_)))
  exact dt_andV inn fun _ => dt_call (da_cons (dt_var (i := 1) rfl) (da_cons fs da_nil)) ⟨M, rows, rfl, hM, hk, few, rfl⟩
end
end K2
end
section
set_option Elab.async false
set_option linter.all false
set_option maxRecDepth 100000
set_option maxHeartbeats 4000000
namespace K2
open PySem PySem.Spec PyProof.Rows L2 DL
/-! ### the law's own look at heights and levels -/
theorem top_get {ls : List (List Int × Int)} (zs : List StD) : top ls (zs.map some) ∈ (0 : Int) :: zs.map (fun z => (lookI ls z.row).getD 0) ∧ ∀ y ∈ (0 : Int) :: zs.map (fun z => (lookI ls z.row).getD 0), y ≤ top ls (zs.map some) := by
  obtain ⟨f1, f2⟩ := fold_max ((zs.map some).filterMap (lookO ls)) 0
  refine ⟨?_, fun y hy => ?_⟩
  · rcases List.mem_cons.mp f1 with e | e
    · show ((zs.map some).filterMap (lookO ls)).foldl max 0 ∈ _
      rw [e]
      exact List.mem_cons_self
    · obtain ⟨o, ho, eo⟩ := List.mem_filterMap.mp e
      obtain ⟨z, hz, rfl⟩ := List.mem_map.mp ho
      refine List.mem_cons_of_mem _ (List.mem_map.mpr ⟨z, hz, ?_⟩)
      have eo' : lookI ls z.row = some (((zs.map some).filterMap (lookO ls)).foldl max 0) := eo
      rw [eo']
      rfl
  · rcases List.mem_cons.mp hy with e | e
    · rw [e]
      exact f2 0 List.mem_cons_self
    · obtain ⟨z, hz, rfl⟩ := List.mem_map.mp e
      cases q : lookI ls z.row with
      | none => exact f2 0 List.mem_cons_self
      | some v => exact f2 v (List.mem_cons_of_mem _ (List.mem_filterMap.mpr ⟨some z, List.mem_map_of_mem hz, q⟩))
theorem all_some : ∀ {es : List (Option StD)}, es.any Option.isNone = false → ∃ zs : List StD, es = zs.map some
  | [], _ => ⟨[], rfl⟩
  | none :: es, h => by simp at h
  | some z :: es, h => by
    obtain ⟨zs, e⟩ := all_some (es := es) (by simpa using h)
    exact ⟨z :: zs, by rw [e]; rfl⟩
section
variable {P : Program} {w : World} {K : PySem.W.Frag} {mg : Str → Option Value} {base : Heap} {k : Nat}
def R_law_fees (C : Addr) (ds : List D) (d : D) : Prop := ∃ (M : MapD) (p : Int) (n : Nat), ds = [mapD C M, .int p, .int (n : Nat)] ∧ 0 ≤ p ∧ p < M.prices.length ∧ n ≤ 6 ∧ (M.price p = none → n = 0) ∧ (∀ x, M.price p = some x → 1 ≤ x ∧ x ≤ 9) ∧ d = .int (M.feeAt p n)
theorem ok__law_fees (T : Txt K mg) : FnOk P w K mg base CX0 3 T.a__law_fees T.fd__law_fees ["_law_chart", "_law_place", "_law_pieces"] (spP K 3 (R_law_fees T.C_Map)) := by
  refine fnP T.F__law_fees sc__law_fees rfl (fun cdv A outer s H E hr => ?_)
  refine ⟨_, (pss_one (ps_ret (pe_ifExp (pt_cmpR op_eq (pv 2) pe_int (nomark _)) pe_int (pe_op op_mul (pv 2) (pe_ix (ixT K) (pe_prop (pv 0) T.cl T.PO_prices (get_prices (k := 0) T) (hr.mono (by decide)) T.b_Map_prices .nil pass0 rfl) (pv 1) (fun _ _ => rfl)))))), ?_⟩
  rintro ds d ⟨M, p, n, rfl, p0, pn, n6, nn, pr, rfl⟩ -
  refine .rt (ds_ret ?_)
  by_cases h : n = 0
  · have e : M.feeAt p n = 0 := by
      unfold MapD.feeAt
      cases M.price p with
      | none => rfl
      | some x => rw [h]; exact Int.zero_mul x
    rw [e]
    exact dt_if_t (db_is (db_test (dt_eqI (dt_var (i := 2) rfl) dt_int)) (decide_eq_true (by omega))) dt_int
  · refine dt_if_f (db_is (db_test (dt_eqI (dt_var (i := 2) rfl) dt_int)) (decide_eq_false (by omega))) ?_
    have at0 := price_at p0 pn
    unfold MapD.feeAt
    cases q : M.price p with
    | none => exact absurd (nn q) h
    | some x =>
      obtain ⟨x1, x9⟩ := pr x q
      rw [q] at at0
      exact dt_ic (C := CMul) (g := fun a b => a * b) (i := ((n : Nat) : Int)) (j := x) (dt_var (i := 2) rfl) (dt_ixT (dt_prop (dt_var (i := 0) rfl) rfl) (dt_var (i := 1) rfl) at0) (Or.inr ⟨by omega, by omega⟩)
theorem free_none {M : MapD} {s : StD} {m : Nat × Nat} (h : m ∈ M.mv s) : M.price s.p = none → m.1 = 0 := fun e => by
  have := (mv_in h).1
  unfold MapD.most at this
  rw [if_pos e] at this
  omega
/-- the fees of a move -/
theorem dt_fees (T : Txt K mg) {ss : Sl} {mem : List Mc} {E : XK} {ta tb tc : TE} {M : MapD} {s : StD} {m : Nat × Nat} (hM : M.Ok) (hS : s.Ok M) (h : m ∈ M.mv s) (h1 : DT K ta ss mem (.dat (mapD T.C_Map M)) mem) (h2 : DT K tb ss mem (.dat (stD s)) mem) (h3 : DT K tc ss mem (.dat (mvD m.1 m.2)) mem) :
    DT K (tCall (spP K 3 (R_law_fees T.C_Map)) [] E (tCons ta (tCons (tOp (rIxT K) tb (tC (.int 0))) (tCons (tOp (rIxT K) tc (tC (.int 0))) tNil)))) ss mem (.dat (.int (M.fee s m.1))) mem := by
  have f := feeOk hM hS h
  exact dt_call (da_cons h1 (da_cons (dt_ixT h2 dt_int rfl) (da_cons (dt_ixT h3 dt_int rfl) da_nil))) ⟨M, s.p, m.1, rfl, f.p0, f.pn, f.p6, free_none h, f.pr, rfl⟩
/-- whether a state is done, as the law asks it -/
theorem db_goal {ss : Sl} {mem : List Mc} {tb te : TE} {M : MapD} {s : StD} (h2 : DT K tb ss mem (.dat (stD s)) mem) (h1 : DT K te ss mem (.dat (.int M.places)) mem) : DB K (tTest (tOp rEq (tOp (rIxT K) tb (tC (.int 0))) (tOp (rI0 fun i j => V.int (i - j)) te (tC (.int 1))))) ss mem (M.done s) mem :=
  db_test (dt_eqI (dt_ixT h2 dt_int rfl) (dt_i0 (g := fun i j => i - j) h1 dt_int))
theorem ok__law_low (T : Txt K mg) : FnOk P w K mg base CX0 6 T.a__law_low T.fd__law_low ["_law_chart", "_law_heights", "_law_state_here"] (spP K 3 (R_height T.C_Map)) := by
  refine fnP T.F__law_low sc__law_low rfl (fun cdv A outer s H E hr => ?_)
  refine ⟨_, (pss_cons (ps_if (PW.pt (pw_or (pt_cmpR op_lt (pe_dget (DL.rm1 hr) (pv 1) (pv 2) (fun _ _ => rfl)) pe_int (nomark _)) (pw_or1 (pt_cmpR op_eq (pe_ix (ixT K) (pv 2) pe_int (fun _ _ => rfl)) (pe_op op_sub (pe_prop (pv 0) T.cl T.PO_places (get_places (k := 0) T) (hr.mono (by decide)) T.b_Map_places .nil pass0 rfl) pe_int) (nomark _))))) (pss_one (ps_ret (pe_cmpR op_ge (pe_dget (DL.rm1 hr) (pv 1) (pv 2) (fun _ _ => rfl)) pe_int (nomark _)))) pss_nil)
  (pss_cons (ps_for PassesOwn.never rfl (piList K (pe_call (ok__law_moves T) (hr.mono (by decide)) (by rfl) T.g__law_moves T.F__law_moves.kp T.b__law_moves .nil pass0 (pa_cons (pv 0) (pa_cons (pv 2) pa_nil)))) (pg_name (i := 3) sc__law_low.nd rfl (.inl rfl)) (pss_cons (ps_set (i := 4) sc__law_low.nd rfl (.inr rfl) (pe_op op_sub (pe_dget (DL.rm1 hr) (pv 1) (pv 2) (fun _ _ => rfl)) (pe_call (ok__law_fees T) (hr.mono (by decide)) (by rfl) T.g__law_fees T.F__law_fees.kp T.b__law_fees .nil pass0 (pa_cons (pv 0) (pa_cons (pe_ix (ixT K) (pv 2) pe_int (fun _ _ => rfl)) (pa_cons (pe_ix (ixT K) (pv 3) pe_int (fun _ _ => rfl)) pa_nil))))))
  (pss_cons (ps_set (i := 5) sc__law_low.nd rfl (.inl rfl) (pe_call (ok__law_ends T) (hr.mono (by decide)) (by rfl) T.g__law_ends T.F__law_ends.kp T.b__law_ends .nil pass0 (pa_cons (pv 0) (pa_cons (pv 2) (pa_cons (pv 3) pa_nil)))))
  (pss_one (ps_if (pt_val (pe_callB (crAll K) (by rfl) T.n_all (by decide +kernel) (pa_cons (pe_lc (own := [("_law_end", 6)]) rfl sc__law_low.nd (piList K (pv 5)) (blkOk_by (own := [("_law_end", 6)]) (N := ["_law_chart", "_law_heights", "_law_state_here", "_law_move", "_law_rest", "_law_ends_here", "_law_end"]) (sc := defScope s__law_low) (by decide +kernel)) (fun _ _ _ _ _ => (pg_name (i := 6) sc__law_low.nd rfl (.inl rfl))) (fun _ _ _ _ _ => pts_nil) (fun _ _ _ _ _ => (pe_and (pe_cmp (pcDinZ P w (DL.rm1 hr) (pv 6) (pv 1)) rfl) (pe_one (pe_cmpR op_le (pe_dget (DL.rm1 hr) (pv 1) (pv 6) (fun _ _ => rfl)) (pv 4) (nomark _)))))) pa_nil))) (pss_one (ps_ret pe_bl)) pss_nil)))))
  (pss_one (ps_ret pe_bl)))), ?_⟩
  rintro ds d ⟨M, hs, s, h, rfl, hM, hS, look, inn, rfl⟩ -
  have look' : getI (toD hs) s.row = some (.int h) := by rw [getI_toD, look]; rfl
  unfold heightOk
  simp only [look, Option.getD_some]
  let f : Sl := [some (.dat (mapD T.C_Map M)), some (.dat (.dic (toD hs))), some (.dat (stD s)), none, none, none, none]
  have get : ∀ sl : Sl, sl[1]? = some (some (.dat (.dic (toD hs)))) → sl[2]? = some (some (.dat (stD s))) → DT K (tDGet (tVar 1) (tVar 2)) sl [] (.dat (.int h)) [] := fun sl h1 h2 => dt_dget (k := s.row) (d := .int h) (m := toD hs) (x := .dat (.dic (toD hs))) (dt_var h1) (dt_var h2) .dat look'
  have c0 := db_or (db_test (dt_i0b (g := fun i j => decide (i < j)) (get f rfl rfl) (dt_int (i := 0)))) fun _ => db_goal (K := K) (ss := f) (mem := []) (M := M) (s := s) (tb := tVar 2) (te := tProp T.C_Map (getSp T.C_Map "_places") [] E0 (tVar 0)) (dt_var rfl) (dt_prop (gs := mapFs M) (dt_var rfl) rfl)
  by_cases c : (decide (h < 0) || M.done s) = true
  · rw [c] at c0
    refine .rt (ds_stop (ds_if_t c0 (ds_ret ?_)))
    have e : (!decide (h < 0) && (M.done s || (M.mv s).any fun m => (M.endsS s m.1 m.2).all (within hs (h - M.fee s m.1)))) = decide (0 ≤ h) := by
      by_cases n : h < 0
      · rw [decide_eq_true n, decide_eq_false (by omega : ¬ 0 ≤ h)]
        rfl
      · rw [decide_eq_false n] at c
        rw [decide_eq_false n, decide_eq_true (by omega : 0 ≤ h), show M.done s = true from c]
        rfl
    rw [e]
    exact dt_i0b (g := fun i j => decide (j ≤ i)) (get f rfl rfl) dt_int
  · rw [Bool.not_eq_true] at c
    rw [c] at c0
    obtain ⟨n, dn⟩ := Bool.or_eq_false_iff.mp c
    rw [n, dn]
    refine .rt (ds_seq (ds_if_f c0 ds_next) ?_)
    let q : Nat × Nat → Bool := fun m => (M.endsS s m.1 m.2).all (within hs (h - M.fee s m.1))
    show DS K _ _ _ (.rt (.dat (.bl (!false && (false || (M.mv s).any q)))) [])
    have loop : ∀ (t : TS), DS K t f [] (if (M.mv s).any q = true then .rt (.dat (.bl true)) [] else .nx f []) → DS K (tSeq t (tRet (tC (.bl false)))) f [] (.rt (.dat (.bl (!false && (false || (M.mv s).any q)))) []) := fun t ht => by
      by_cases z : (M.mv s).any q = true
      · rw [if_pos z] at ht
        rw [z]
        exact ds_stop ht
      · rw [if_neg z] at ht
        rw [Bool.not_eq_true] at z
        rw [z]
        exact ds_seq ht (ds_ret dt_bl)
    refine loop _ (ds_searchL (fun m : Nat × Nat => mvD m.1 m.2) (0, 0) (M.mv s) [3, 4, 5] rfl (dt_call (da_cons (dt_var (i := 0) rfl) (da_cons (dt_var (i := 2) rfl) da_nil)) ⟨M, s, rfl, inR hM hS, by rw [moves_eq]⟩) q fun m hm => ?_)
    let es := M.endsS s m.1 m.2
    let s2 : Sl := [some (.dat (mapD T.C_Map M)), some (.dat (.dic (toD hs))), some (.dat (stD s)), some (.dat (mvD m.1 m.2)), some (.dat (.int (h - M.fee s m.1))), some (.dat (.lst (es.map stO))), none]
    have a1 : ∀ (t1 t2 t3 : TS) (out : Out), DS K t1 (f.set 3 (some (.dat (mvD m.1 m.2)))) [] (.nx ((f.set 3 (some (.dat (mvD m.1 m.2)))).set 4 (some (.dat (.int (h - M.fee s m.1))))) []) → DS K t2 ((f.set 3 (some (.dat (mvD m.1 m.2)))).set 4 (some (.dat (.int (h - M.fee s m.1))))) [] (.nx s2 []) → DS K t3 s2 [] out → DS K (tSeq t1 (tSeq t2 t3)) (f.set 3 (some (.dat (mvD m.1 m.2)))) [] out := fun _ _ _ _ x y z => ds_seq x (ds_seq y z)
    have b1 := ds_set (i := 4) (dt_i0 (g := fun i j => i - j) (get (f.set 3 (some (.dat (mvD m.1 m.2)))) rfl rfl) (dt_fees (E := E0) T (ta := tVar 0) (tb := tVar 2) (tc := tVar 3) (ss := f.set 3 (some (.dat (mvD m.1 m.2)))) (mem := []) hM hS hm (dt_var rfl) (dt_var rfl) (dt_var rfl)))
    have b2 : DS K (tAsg (tCall (spP K 3 (R_results T.C_Map)) [] E0 (tCons (tVar 0) (tCons (tVar 2) (tCons (tVar 3) tNil)))) (gName 5)) ((f.set 3 (some (.dat (mvD m.1 m.2)))).set 4 (some (.dat (.int (h - M.fee s m.1))))) [] (.nx s2 []) := ds_set (i := 5) (dt_call (da_cons (dt_var rfl) (da_cons (dt_var rfl) (da_cons (dt_var rfl) da_nil))) ⟨M, s, m.1, m.2, rfl, inM hM hS hm, by rw [ends_eq]⟩)
    suffices b3 : DB K _ s2 [] (q m) [] from ⟨fun yes => a1 _ _ _ _ b1 b2 (ds_if_t (yes ▸ b3) (ds_ret dt_bl)), fun no => ⟨s2, a1 _ _ _ _ b1 b2 (ds_if_f (no ▸ b3) ds_next), rfl⟩⟩
    refine db_b (dt_allL stO none es (dt_var (i := 5) rfl) (Nat.le_trans (ends_len hS m.1 m.2) (by decide)) (within hs (h - M.fee s m.1)) fun o ho => ?_)
    cases o with
    | none => exact dt_andV_f (dt_noneIn (m := toD hs) (x := .dat (.dic (toD hs))) (dt_var (i := 6) rfl) (dt_var (i := 1) rfl) .dat fun p hp => by
        obtain ⟨q, hq, rfl⟩ := List.mem_map.mp hp
        exact rows4_none _ (inn q hq))
    | some z =>
      have din := dt_dinZ (P := P) (w := w) (k := z.row) (m := toD hs) (x := .dat (.dic (toD hs))) (ss := (s2.set 6 none).set 6 (some (.dat (stD z)))) (mem := []) (dt_var (K := K) (i := 6) rfl) (dt_var (i := 1) rfl) .dat
      rw [getI_toD] at din
      cases e : lookI hs z.row with
      | none =>
        rw [e] at din
        rw [show within hs (h - M.fee s m.1) (some z) = false by unfold within; simp only [e]]
        exact dt_andV_f din
      | some v =>
        rw [e] at din
        rw [show within hs (h - M.fee s m.1) (some z) = decide (v ≤ h - M.fee s m.1) by unfold within; simp only [e]]
        exact dt_andV_t (b := decide (v ≤ h - M.fee s m.1)) din (dt_i0b (dt_dget (k := z.row) (d := .int v) (m := toD hs) (x := .dat (.dic (toD hs))) (dt_var (i := 1) rfl) (dt_var (i := 6) rfl) .dat (by rw [getI_toD, e]; rfl)) (dt_var (i := 4) rfl))
theorem ok__law_high (T : Txt K mg) : FnOk P w K mg base CX0 6 T.a__law_high T.fd__law_high ["_law_chart", "_law_levels", "_law_state_here"] (spP K 3 fun ds d => ∃ (M : MapD) (ls : List (List Int × Int)) (s : StD) (v : Int), ds = [mapD T.C_Map M, .dic (toD ls), stD s] ∧ M.Ok ∧ s.Ok M ∧ lookI ls s.row = some v ∧ d = .bl (!levelPos ls s.row || levelOk M ls s)) := by
  refine fnP T.F__law_high sc__law_high rfl (fun cdv A outer s H E hr => ?_)
  refine ⟨_, (pss_cons (ps_if (pt_cmpR op_le (pe_dget (DL.rm1 hr) (pv 1) (pv 2) (fun _ _ => rfl)) pe_int (nomark _)) (pss_one (ps_ret pe_bl)) pss_nil)
  (pss_cons (ps_if (pt_cmpR op_eq (pe_ix (ixT K) (pv 2) pe_int (fun _ _ => rfl)) (pe_op op_sub (pe_prop (pv 0) T.cl T.PO_places (get_places (k := 0) T) (hr.mono (by decide)) T.b_Map_places .nil pass0 rfl) pe_int) (nomark _)) (pss_one (ps_ret pe_bl)) pss_nil)
  (pss_cons (ps_for PassesOwn.never rfl (piList K (pe_call (ok__law_moves T) (hr.mono (by decide)) (by rfl) T.g__law_moves T.F__law_moves.kp T.b__law_moves .nil pass0 (pa_cons (pv 0) (pa_cons (pv 2) pa_nil)))) (pg_name (i := 3) sc__law_high.nd rfl (.inl rfl)) (pss_cons (ps_set (i := 4) sc__law_high.nd rfl (.inl rfl) (pe_call (ok__law_ends T) (hr.mono (by decide)) (by rfl) T.g__law_ends T.F__law_ends.kp T.b__law_ends .nil pass0 (pa_cons (pv 0) (pa_cons (pv 2) (pa_cons (pv 3) pa_nil)))))
  (pss_one (ps_if (pt_cmpR (opNotInD K (DL.room_in hr)) pe_non (pv 4) (by rfl)) (pss_cons (ps_setLc (i := 5) (own := [("_law_end", 6)]) rfl sc__law_high.nd rfl rfl (sw_true rfl rfl rfl (by decide +kernel)) (piList K (pv 4)) (blkOk_by (own := [("_law_end", 6)]) (N := ["_law_chart", "_law_levels", "_law_state_here", "_law_move", "_law_ends_here", "_law_some", "_law_end"]) (sc := defScope s__law_high) (by decide +kernel)) (fun _ _ _ _ _ => (pg_name (i := 6) sc__law_high.nd rfl (.inl rfl))) (fun _ _ _ _ _ => pts_nil) (fun _ _ _ _ _ => (pe_dget2 (DL.rm1 hr) (pv 1) (pv 6) pe_int ⟨rfl, rfl, rfl, rfl⟩)))
  (pss_one (ps_if (pt_cmpR op_lt (pe_op op_add (pe_call (ok__law_fees T) (hr.mono (by decide)) (by rfl) T.g__law_fees T.F__law_fees.kp T.b__law_fees .nil pass0 (pa_cons (pv 0) (pa_cons (pe_ix (ixT K) (pv 2) pe_int (fun _ _ => rfl)) (pa_cons (pe_ix (ixT K) (pv 3) pe_int (fun _ _ => rfl)) pa_nil)))) (pe_callB (cr_max rfl) (by rfl) T.n_max (by decide +kernel) (pa_cons (pe_op op_cat (pe_lst (pa_cons pe_int pa_nil)) (pv 5)) pa_nil))) (pe_dget (DL.rm1 hr) (pv 1) (pv 2) (fun _ _ => rfl)) (nomark _)) (pss_one (ps_ret pe_bl)) pss_nil))) pss_nil))))
  (pss_one (ps_ret pe_bl))))), ?_⟩
  rintro ds d ⟨M, ls, s, v, rfl, hM, hS, look, rfl⟩ -
  have look' : getI (toD ls) s.row = some (.int v) := by rw [getI_toD, look]; rfl
  unfold levelOk levelPos
  simp only [look, Option.getD_some]
  let f : Sl := [some (.dat (mapD T.C_Map M)), some (.dat (.dic (toD ls))), some (.dat (stD s)), none, none, none, none]
  have get : ∀ sl : Sl, sl[1]? = some (some (.dat (.dic (toD ls)))) → sl[2]? = some (some (.dat (stD s))) → DT K (tDGet (tVar 1) (tVar 2)) sl [] (.dat (.int v)) [] := fun sl h1 h2 => dt_dget (k := s.row) (d := .int v) (m := toD ls) (x := .dat (.dic (toD ls))) (dt_var h1) (dt_var h2) .dat look'
  have c0 := db_test (dt_i0b (g := fun i j => decide (i ≤ j)) (get f rfl rfl) (dt_int (i := 0)))
  by_cases pos : v > 0
  · rw [decide_eq_false (by omega : ¬ v ≤ 0)] at c0
    rw [decide_eq_true pos]
    refine .rt (ds_seq (ds_if_f c0 ds_next) ?_)
    have c1 := db_goal (K := K) (ss := f) (mem := []) (M := M) (s := s) (tb := tVar 2) (te := tProp T.C_Map (getSp T.C_Map "_places") [] E0 (tVar 0)) (dt_var rfl) (dt_prop (gs := mapFs M) (dt_var rfl) rfl)
    cases dn : M.done s with
    | true =>
      rw [dn] at c1
      exact ds_stop (ds_if_t c1 (ds_ret dt_bl))
    | false =>
      rw [dn] at c1
      refine ds_seq (ds_if_f c1 ds_next) ?_
      let q : Nat × Nat → Bool := cheaper M ls s v
      have loop : ∀ (t : TS), DS K t f [] (if (M.mv s).any q = true then .rt (.dat (.bl false)) [] else .nx f []) → DS K (tSeq t (tRet (tC (.bl true)))) f [] (.rt (.dat (.bl (!true || (!false && !(M.mv s).any q)))) []) := fun t ht => by
        by_cases z : (M.mv s).any q = true
        · rw [if_pos z] at ht
          rw [z]
          exact ds_stop ht
        · rw [if_neg z] at ht
          rw [Bool.not_eq_true] at z
          rw [z]
          exact ds_seq ht (ds_ret dt_bl)
      refine loop _ (ds_searchL (fun m : Nat × Nat => mvD m.1 m.2) (0, 0) (M.mv s) [3, 4, 5] rfl (dt_call (da_cons (dt_var (i := 0) rfl) (da_cons (dt_var (i := 2) rfl) da_nil)) ⟨M, s, rfl, inR hM hS, by rw [moves_eq]⟩) q fun m hm => ?_)
      let es := M.endsS s m.1 m.2
      let s1 : Sl := f.set 3 (some (.dat (mvD m.1 m.2)))
      let s2 : Sl := s1.set 4 (some (.dat (.lst (es.map stO))))
      have a1 : ∀ (t1 t2 : TS) (out : Out), DS K t1 s1 [] (.nx s2 []) → DS K t2 s2 [] out → DS K (tSeq t1 t2) (f.set 3 (some (.dat (mvD m.1 m.2)))) [] out := fun _ _ _ x y => ds_seq x y
      have b2 : DS K (tAsg (tCall (spP K 3 (R_results T.C_Map)) [] E0 (tCons (tVar 0) (tCons (tVar 2) (tCons (tVar 3) tNil)))) (gName 4)) s1 [] (.nx s2 []) := ds_set (i := 4) (dt_call (da_cons (dt_var (i := 0) rfl) (da_cons (dt_var (i := 2) rfl) (da_cons (dt_var (i := 3) rfl) da_nil))) ⟨M, s, m.1, m.2, rfl, inM hM hS hm, by rw [ends_eq]⟩)
      have c2 := db_test (dt_noneNotIn (K := K) (es := es) (ss := s2) (mem := []) (dt_non (K := K)) (dt_var (i := 4) rfl))
      have qe : q m = (!es.any Option.isNone && decide (M.fee s m.1 + top ls es < v)) := rfl
      cases gone : es.any Option.isNone with
      | true =>
        rw [gone] at c2 qe
        exact ⟨fun yes => (by rw [qe] at yes; cases yes), fun _ => ⟨s2, a1 _ _ _ b2 (ds_if_f c2 ds_next), rfl⟩⟩
      | false =>
        rw [gone] at c2 qe
        obtain ⟨zs, ez⟩ := all_some gone
        have zl : zs.length ≤ 5 := by
          have := ends_len hS m.1 m.2
          have : (zs.map some).length ≤ 5 := by rw [← ez]; exact this
          rw [List.length_map] at this
          exact this
        obtain ⟨t1, t2⟩ := top_get (ls := ls) zs
        rw [← ez] at t1 t2
        have est : es.map stO = zs.map stD := by
          rw [ez, List.map_map]
          rfl
        let sv : List Int := zs.map fun z => (lookI ls z.row).getD 0
        let s3 : Sl := s2.set 5 (some (.tl (sv.map .int)))
        have b3 : DS K (tAsg (tLc (iList K (tVar 4)) (gName 6) tYes (tDGet2 (tVar 1) (tVar 6) (tC (.int 0))) [6]) (gName 5)) s2 [] (.nx s3 []) := by
          refine ds_set (i := 5) ?_
          rw [show sv.map D.int = zs.map fun z => D.int ((lookI ls z.row).getD 0) by show (zs.map _).map _ = _; rw [List.map_map]; rfl]
          refine dt_lcLT stD ⟨0, 0, 0, 0⟩ zs (dt_var (i := 4) (by rw [← est]; rfl)) (Nat.le_trans zl (by decide)) _ fun z hz => ?_
          have g := dt_dget2 (K := K) (ss := (s2.set 6 none).set 6 (some (.dat (stD z)))) (mem := []) (k := z.row) (m := toD ls) (e := .int 0) (x := .dat (.dic (toD ls))) (dt_var (i := 1) rfl) .dat (dt_var (i := 6) rfl) (dt_int (i := 0)) .dat
          rw [getD_toD] at g
          exact g
        have b4 := db_test (dt_i0b (g := fun i j => decide (i < j)) (dt_i0 (g := fun i j => i + j) (dt_fees (E := E0) T (ta := tVar 0) (tb := tVar 2) (tc := tVar 3) (ss := s3) (mem := []) hM hS hm (dt_var rfl) (dt_var rfl) (dt_var rfl)) (dt_maxL (ns := 0 :: sv) (dt_tl (dt_catT (ds := [.int 0]) (es := sv.map .int) (dt_lstT (da_cons dt_int da_nil)) (dt_var (i := 5) rfl) (by
          have : sv.length = zs.length := List.length_map _
          show 1 + (sv.map D.int).length ≤ _
          rw [List.length_map]
          omega))) t1 t2)) (get s3 rfl rfl))
        refine ⟨fun yes => a1 _ _ _ b2 (ds_if_t c2 (ds_seq b3 (ds_if_t (db_is b4 ?_) (ds_ret dt_bl)))), fun no => ⟨s3, a1 _ _ _ b2 (ds_if_t c2 (ds_seq b3 (ds_if_f (db_is b4 ?_) ds_next))), rfl⟩⟩
        · rw [qe] at yes
          exact yes
        · rw [qe] at no
          exact no
  · rw [decide_eq_true (by omega : v ≤ 0)] at c0
    rw [decide_eq_false pos]
    exact .rt (ds_stop (ds_if_t c0 (ds_ret dt_bl)))
theorem ok__law_right (T : Txt K mg) : FnOk P w K mg base CX0 8 T.a__law_right T.fd__law_right ["_law_chart", "_law_state_here", "_law_parts"] (spP K 3 fun ds d => ∃ (M : MapD) (s : StD) (cost : Int) (hs ls : List (List Int × Int)), ds = [mapD T.C_Map M, stD s, .tup [.int cost, .dic (toD hs), .dic (toD ls)]] ∧ M.Ok ∧ s.Ok M ∧ Dct M hs ∧ Dct M ls ∧ d = .bl (sureShows M s cost hs ls)) := by
  refine fnP T.F__law_right sc__law_right rfl (fun cdv A outer s H E hr => ?_)
  refine ⟨_, (pss_cons (ps_asg (pv 2) (pgTup K 3 (pgs_cons (pg_name (i := 3) sc__law_right.nd rfl (.inl rfl)) (pgs_cons (pg_name (i := 4) sc__law_right.nd rfl (.inr rfl)) (pgs_cons (pg_name (i := 5) sc__law_right.nd rfl (.inr rfl)) pgs_nil)))))
  (pss_cons (ps_if (PW.pt (pw_or (pt_cmp (pc_dnotin (DL.rm1 hr) (pv 1) (pv 4))) (pw_or1 (pt_cmpR op_gt (pe_dget (DL.rm1 hr) (pv 4) (pv 1) (fun _ _ => rfl)) (pv 3) (nomark _))))) (pss_one (ps_ret pe_bl)) pss_nil)
  (pss_cons (ps_if (PW.pt (pw_and (pt_cmpR op_gt (pv 3) pe_int (nomark _)) (pw_and1 (pt_cmpR op_lt (pe_dget2 (DL.rm1 hr) (pv 5) (pv 1) pe_int ⟨rfl, rfl, rfl, rfl⟩) (pv 3) (nomark _))))) (pss_one (ps_ret pe_bl)) pss_nil)
  (pss_cons (ps_if (pt_not (pt_val (pe_callB (crAll K) (by rfl) T.n_all (by decide +kernel) (pa_cons (pe_lk (pe_lc (own := [("_law_one", 6)]) rfl sc__law_right.nd (pi_keys (pv 4)) (blkOk_by (own := [("_law_one", 6)]) (N := ["_law_chart", "_law_state_here", "_law_parts", "_law_cost", "_law_heights", "_law_levels", "_law_one"]) (sc := defScope s__law_right) (by decide +kernel)) (fun _ _ _ _ _ => (pg_name (i := 6) sc__law_right.nd rfl (.inl rfl))) (fun _ _ _ _ _ => pts_nil) (fun _ _ _ _ _ => (pe_call (ok__law_low T) (hr.mono (by decide)) (by rfl) T.g__law_low T.F__law_low.kp T.b__law_low .nil pass0 (pa_cons (pv 0) (pa_cons (pv 4) (pa_cons (pv 6) pa_nil))))))) pa_nil)))) (pss_one (ps_ret pe_bl)) pss_nil)
  (pss_one (ps_ret (pe_callB (crAll K) (by rfl) T.n_all (by decide +kernel) (pa_cons (pe_lk (pe_lc (own := [("_law_one", 6)]) rfl sc__law_right.nd (pi_keys (pv 5)) (blkOk_by (own := [("_law_one", 6)]) (N := ["_law_chart", "_law_state_here", "_law_parts", "_law_cost", "_law_heights", "_law_levels", "_law_one"]) (sc := defScope s__law_right) (by decide +kernel)) (fun _ _ _ _ _ => (pg_name (i := 6) sc__law_right.nd rfl (.inl rfl))) (fun _ _ _ _ _ => pts_nil) (fun _ _ _ _ _ => (pe_call (ok__law_high T) (hr.mono (by decide)) (by rfl) T.g__law_high T.F__law_high.kp T.b__law_high .nil pass0 (pa_cons (pv 0) (pa_cons (pv 5) (pa_cons (pv 6) pa_nil))))))) pa_nil)))))))), ?_⟩
  rintro ds d ⟨M, s, cost, hs, ls, rfl, hM, hS, dh, dl, rfl⟩ -
  have fh := dh.few hM
  have fl := dl.few hM
  let sl : Sl := [some (.dat (mapD T.C_Map M)), some (.dat (stD s)), some (.dat (.tup [.int cost, .dic (toD hs), .dic (toD ls)])), some (.dat (.int cost)), some (.dat (.dic (toD hs))), some (.dat (.dic (toD ls))), none]
  refine .rt (ds_seq (ss1 := sl) (m1 := []) (ds_asg (dt_var (i := 2) rfl) (dg_tup (dgs_cons dg_name (dgs_cons dg_name (dgs_cons dg_name dgs_nil))) rfl)) ?_)
  have nin : DT K (tDNotIn (tVar 1) (tVar 4)) sl [] (.dat (.bl (!(getI (toD hs) s.row).isSome))) [] := dt_dnotin (k := s.row) (m := toD hs) (x := .dat (.dic (toD hs))) (dt_var rfl) (dt_var rfl) .dat
  rw [getI_toD] at nin
  unfold sureShows
  cases q : lookI hs s.row with
  | none =>
    rw [q] at nin
    exact ds_stop (ds_if_t (db_or_t (db_b nin)) (ds_ret dt_bl))
  | some h =>
    rw [q] at nin
    have get : DT K (tDGet (tVar 4) (tVar 1)) sl [] (.dat (.int h)) [] := dt_dget (k := s.row) (m := toD hs) (x := .dat (.dic (toD hs))) (dt_var rfl) (dt_var rfl) .dat (by rw [getI_toD, q]; rfl)
    have fc : DT K (tVar 3) sl [] (.dat (.int cost)) [] := dt_var rfl
    have c1 := db_or_f (db_b nin) (db_test (dt_i0b (g := fun i j => decide (j < i)) get fc))
    dsimp only
    by_cases h1 : cost < h
    · rw [decide_eq_true h1] at c1 ⊢
      exact ds_stop (ds_if_t c1 (ds_ret dt_bl))
    · rw [decide_eq_false h1] at c1 ⊢
      refine ds_seq (ds_if_f c1 ds_next) ?_
      have g2 : DT K (tDGet2 (tVar 5) (tVar 1) (tC (.int 0))) sl [] (.dat (.int ((lookI ls s.row).getD 0))) [] := by
        have z := dt_dget2 (K := K) (ss := sl) (mem := []) (k := s.row) (m := toD ls) (e := .int 0) (x := .dat (.dic (toD ls))) (dt_var (i := 5) rfl) .dat (dt_var (i := 1) rfl) (dt_int (i := 0)) .dat
        rw [getD_toD] at z
        exact z
      have c2 := db_and (db_test (dt_i0b (g := fun i j => decide (j < i)) fc (dt_int (i := 0)))) fun _ => db_test (dt_i0b (g := fun i j => decide (i < j)) g2 fc)
      by_cases h2 : (decide (0 < cost) && decide ((lookI ls s.row).getD 0 < cost)) = true
      · rw [h2] at c2 ⊢
        exact ds_stop (ds_if_t c2 (ds_ret dt_bl))
      · rw [Bool.not_eq_true] at h2
        rw [h2] at c2 ⊢
        refine ds_seq (ds_if_f c2 ds_next) ?_
        have keyOf : ∀ {xs : List (List Int × Int)}, Dct M xs → ∀ p ∈ toD xs, ∃ v, lookI xs p.1 = some v ∧ (ofRow p.1).Ok M ∧ p.1 = (ofRow p.1).row := fun dx p hp => by
          obtain ⟨r, hr, rfl⟩ := List.mem_map.mp hp
          obtain ⟨v, hv⟩ := look_mem hr
          exact ⟨v, hv, dx.keyed r hr⟩
        have allH : hs.all (fun p => heightOk M hs (ofRow p.1)) = (toD hs).all fun p => heightOk M hs (ofRow p.1) := by
          unfold toD
          rw [List.all_map]
          rfl
        have allL : ls.all (fun p => !levelPos ls p.1 || levelOk M ls (ofRow p.1)) = (toD ls).all fun p => !levelPos ls p.1 || levelOk M ls (ofRow p.1) := by
          unfold toD
          rw [List.all_map]
          rfl
        rw [allH, allL]
        have c3 := db_not (db_b (dt_allKeys (K := K) (ss := sl) (mem := []) (i := 4) (j := 6) (m := toD hs) (tx := tCall (spP K 3 (R_height T.C_Map)) [] E0 (tCons (tVar 0) (tCons (tVar 4) (tCons (tVar 6) tNil)))) rfl (noLk_of rfl) (by rw [toD_len]; omega) (fun p => heightOk M hs (ofRow p.1)) fun p hp => by
          obtain ⟨v, hv, ok, er⟩ := keyOf dh p hp
          refine dt_call (da_cons (dt_var (i := 0) rfl) (da_cons (dt_varLk (i := 4) (m := toD hs) rfl) (da_cons (dt_var (i := 6) rfl) da_nil))) ⟨M, hs, ofRow p.1, v, ?_, hM, ok, er ▸ hv, keyed_in hM dh.keyed, rfl⟩
          show [mapD T.C_Map M, D.dic (toD hs), rowD p.1] = [mapD T.C_Map M, D.dic (toD hs), rowD (ofRow p.1).row]
          rw [← er]))
        by_cases a1 : ((toD hs).all fun p => heightOk M hs (ofRow p.1)) = true
        · rw [a1] at c3 ⊢
          refine ds_seq (ds_if_f c3 ds_next) (ds_ret ?_)
          show DT K _ _ _ (.dat (.bl ((toD ls).all fun p => !levelPos ls p.1 || levelOk M ls (ofRow p.1)))) _
          refine dt_allKeys (i := 5) (j := 6) (m := toD ls) rfl (noLk_of rfl) (by rw [toD_len]; omega) (fun p => !levelPos ls p.1 || levelOk M ls (ofRow p.1)) fun p hp => ?_
          obtain ⟨v, hv, ok, er⟩ := keyOf dl p hp
          have e : (!levelPos ls p.1 || levelOk M ls (ofRow p.1)) = (!levelPos ls (ofRow p.1).row || levelOk M ls (ofRow p.1)) := by rw [← er]
          rw [e]
          refine dt_call (da_cons (dt_var (i := 0) rfl) (da_cons (dt_varLk (i := 5) (m := toD ls) rfl) (da_cons (dt_var (i := 6) rfl) da_nil))) ⟨M, ls, ofRow p.1, v, ?_, hM, ok, er ▸ hv, rfl⟩
          show [mapD T.C_Map M, D.dic (toD ls), rowD p.1] = [mapD T.C_Map M, D.dic (toD ls), rowD (ofRow p.1).row]
          rw [← er]
        · rw [Bool.not_eq_true] at a1
          rw [a1] at c3 ⊢
          exact ds_stop (ds_if_t c3 (ds_ret dt_bl))
end
end K2
end
section
set_option Elab.async false
set_option linter.all false
set_option maxRecDepth 100000
set_option maxHeartbeats 4000000
namespace K2
open PySem PySem.Spec PyProof.Rows L2 DL
/-! ### the law's own look at states in which something spoils -/
theorem held_has (k : List Int) : ∀ (rows : List (List Int)) (m : List (List Int × D)), (getI (rows.foldl (fun m r => putI m r (.bl true)) m) k).isSome = (decide (k ∈ rows) || (getI m k).isSome)
  | [], m => by simp
  | r :: rows, m => by
    show (getI (rows.foldl _ (putI m r (.bl true))) k).isSome = _
    rw [held_has k rows, getI_put]
    by_cases e : k = r
    · rw [if_pos e]
      simp [e]
    · rw [if_neg e]
      simp [e]
theorem held_in (rows : List (List Int)) (k : List Int) : (getI (heldOf rows) k).isSome = decide (k ∈ rows) := by
  unfold heldOf
  rw [held_has]
  simp [getI]
theorem held_all (rows : List (List Int)) : putAllI [] (rows.map fun r => (r, D.bl true)) = heldOf rows := by
  unfold putAllI heldOf
  rw [List.foldl_map]
section
variable {P : Program} {w : World} {K : PySem.W.Frag} {mg : Str → Option Value} {base : Heap} {k : Nat}
theorem ok__law_shut (T : Txt K mg) : FnOk P w K mg base CX0 6 T.a__law_shut T.fd__law_shut ["_law_chart", "_law_state_here", "_law_some"] (spP K 3 fun ds d => ∃ (M : MapD) (s : StD) (rows : List (List Int)), ds = [mapD T.C_Map M, stD s, .lst (rows.map rowD)] ∧ M.Ok ∧ s.Ok M ∧ (∀ r ∈ rows, (ofRow r).Ok M ∧ r = (ofRow r).row) ∧ rows.length ≤ 1000 ∧ d = .bl (spoilsShows M s rows)) := by
  refine fnP T.F__law_shut sc__law_shut rfl (fun cdv A outer s H E hr => ?_)
  refine ⟨_, (pss_cons (ps_set (i := 3) sc__law_shut.nd rfl (.inr rfl) (pe_callTy (callDictPr K rfl (DL.rm2 hr)) (by rfl) T.n_dict (by decide +kernel) (pa_cons (pe_lc (own := [("_law_one", 4)]) rfl sc__law_shut.nd (piList K (pv 2)) (blkOk_by (own := [("_law_one", 4)]) (N := ["_law_chart", "_law_state_here", "_law_some", "_law_held", "_law_one", "_law_move", "_law_ends_here", "_law_end"]) (sc := defScope s__law_shut) (by decide +kernel)) (fun _ _ _ _ _ => (pg_name (i := 4) sc__law_shut.nd rfl (.inl rfl))) (fun _ _ _ _ _ => pts_nil) (fun _ _ _ _ _ => (pe_tup (pa_cons (pv 4) (pa_cons pe_bl pa_nil))))) pa_nil)))
  (pss_cons (ps_lk (ps_for PassesOwn.never rfl (pi_keys (pv 3)) (pg_name (i := 4) sc__law_shut.nd rfl (.inl rfl)) (pss_cons (ps_if (pt_cmpR op_eq (pe_ix (ixT K) (pv 4) pe_int (fun _ _ => rfl)) (pe_op op_sub (pe_prop (pv 0) T.cl T.PO_places (get_places (k := 0) T) (hr.mono (by decide)) T.b_Map_places .nil pass0 rfl) pe_int) (nomark _)) (pss_one (ps_ret pe_bl)) pss_nil)
  (pss_one (ps_for PassesOwn.never rfl (piList K (pe_call (ok__law_moves T) (hr.mono (by decide)) (by rfl) T.g__law_moves T.F__law_moves.kp T.b__law_moves .nil pass0 (pa_cons (pv 0) (pa_cons (pv 4) pa_nil)))) (pg_name (i := 5) sc__law_shut.nd rfl (.inl rfl)) (pss_cons (ps_set (i := 6) sc__law_shut.nd rfl (.inl rfl) (pe_call (ok__law_ends T) (hr.mono (by decide)) (by rfl) T.g__law_ends T.F__law_ends.kp T.b__law_ends .nil pass0 (pa_cons (pv 0) (pa_cons (pv 4) (pa_cons (pv 5) pa_nil)))))
  (pss_one (ps_if (pt_not (pt_val (pe_callB (crAny K) (by rfl) T.n_any (by decide +kernel) (pa_cons (pe_lc (own := [("_law_end", 7)]) rfl sc__law_shut.nd (piList K (pv 6)) (blkOk_by (own := [("_law_end", 7)]) (N := ["_law_chart", "_law_state_here", "_law_some", "_law_held", "_law_one", "_law_move", "_law_ends_here", "_law_end"]) (sc := defScope s__law_shut) (by decide +kernel)) (fun _ _ _ _ _ => (pg_name (i := 7) sc__law_shut.nd rfl (.inl rfl))) (fun _ _ _ _ _ => pts_nil) (fun _ _ _ _ _ => (pe_or (pe_cmp (pc_isN (pv 7)) rfl) (pe_one (pe_cmp (pcDinZ P w (DL.rm1 hr) (pv 7) (pv 3)) rfl))))) pa_nil)))) (pss_one (ps_ret pe_bl)) pss_nil))))))))
  (pss_one (ps_ret (pe_cmp (pc_din (DL.rm1 hr) (pv 1) (pv 3)) rfl))))), ?_⟩
  rintro ds d ⟨M, s, rows, rfl, hM, hS, hk, few, rfl⟩ -
  let m := heldOf rows
  let has : List Int → Bool := fun r => (getI m r).isSome
  let vM : Option Vl := some (.dat (mapD T.C_Map M))
  let vs : Option Vl := some (.dat (stD s))
  let vr : Option Vl := some (.dat (.lst (rows.map rowD)))
  have inn : ∀ p ∈ m, p.1 ∈ rows := fun p hp => (held_keys rows [] p hp).elim id fun z => by simp at z
  have pe : (rows.map fun r => (r, D.bl true)).map DL.pairD = rows.map fun r => D.tup [rowD r, .bl true] := by
    rw [List.map_map]
    rfl
  refine ⟨[.gone], .inl ?_⟩
  have made := dt_dictPr (K := K) (m := rows.map fun r => (r, D.bl true)) (pe ▸ dt_lcL (K := K) (ss := [vM, vs, vr, none, none, none, none, none]) (mem := []) (tx := tTup (tCons (tVar 4) (tCons (tC (.bl true)) tNil))) (j := 4) rowD [] rows (dt_var (i := 2) rfl) (by omega) (fun r => D.tup [rowD r, .bl true]) fun r hr => dt_tup (da_cons (dt_var (i := 4) rfl) (da_cons dt_bl da_nil)))
  rw [held_all] at made
  refine ds_seq (ss1 := [vM, vs, vr, some (.own 0), none, none, none, none]) (m1 := [.dic m]) (ds_set (i := 3) made) ?_
  refine ds_frzD (n := 0) (m := m) 3 rfl rfl ?_
  let f : Sl := [vM, vs, vr, some (.dat (.dic m)), none, none, none, none]
  let fl : Sl := [vM, vs, vr, some (.lk m), none, none, none, none]
  let q : List Int × D → Bool := fun p => !spoilOk M has (ofRow p.1)
  have ans : spoilsShows M s rows = (!m.any q && has s.row) := by
    show (decide (s.row ∈ rows) && (heldOf rows).all fun p => spoilOk M has (ofRow p.1)) = _
    rw [show has s.row = decide (s.row ∈ rows) from held_in rows s.row, Bool.and_comm, List.all_eq_not_any_not]
  have loop : ∀ (t : TS), DS K t f [.gone] (if m.any q = true then .rt (.dat (.bl false)) [.gone] else .nx f [.gone]) → DS K (tSeq t (tRet (tDIn (tVar 1) (tVar 3)))) f [.gone] (.rt (.dat (.bl (!m.any q && has s.row))) [.gone]) := fun t ht => by
    by_cases z : m.any q = true
    · rw [if_pos z] at ht
      rw [z]
      exact ds_stop ht
    · rw [if_neg z] at ht
      rw [Bool.not_eq_true] at z
      rw [z]
      exact ds_seq ht (ds_ret (dt_din (k := s.row) (m := m) (x := .dat (.dic m)) (dt_var (i := 1) rfl) (dt_var (i := 3) rfl) .dat))
  rw [ans]
  refine loop _ (ds_searchKeys (r := .dat (.bl false)) (m := m) (fl := fl) [4, 5, 6] rfl (noLk_of rfl) rfl rfl (noLk_of rfl) (fun _ z => nomatch z) q fun p hp => ?_)
  obtain ⟨ok, er⟩ := hk _ (inn p hp)
  obtain ⟨st, est⟩ : ∃ st, st = ofRow p.1 := ⟨_, rfl⟩
  rw [← est] at ok er
  have es : rowD p.1 = stD st := by rw [er]; rfl
  have qe : q p = !spoilOk M has st := by rw [est]
  rw [es, qe]
  let s4 : Sl := [vM, vs, vr, some (.lk m), some (.dat (stD st)), none, none, none]
  have c1 := db_goal (K := K) (ss := s4) (mem := [.gone]) (M := M) (s := st) (tb := tVar 4) (te := tProp T.C_Map (getSp T.C_Map "_places") [] E0 (tVar 0)) (dt_var rfl) (dt_prop (gs := mapFs M) (dt_var rfl) rfl)
  unfold spoilOk
  have parts : ∀ (t1 t2 : TS) (out : Out), DS K t1 s4 [.gone] (.nx s4 [.gone]) → DS K t2 s4 [.gone] out → DS K (tSeq t1 t2) (fl.set 4 (some (.dat (stD st)))) [.gone] out := fun _ _ _ x y => ds_seq x y
  have stop : ∀ (t1 t2 : TS) (out : Out), DS K t1 s4 [.gone] out → out.stops = true → DS K (tSeq t1 t2) (fl.set 4 (some (.dat (stD st)))) [.gone] out := fun _ _ _ x y => ds_stop x y
  cases dn : M.done st with
  | true =>
    rw [dn] at c1
    exact ⟨fun _ => stop _ _ _ (ds_if_t c1 (ds_ret dt_bl)) rfl, fun z => nomatch z⟩
  | false =>
    rw [dn] at c1
    let q2 : Nat × Nat → Bool := fun m => !(M.endsS st m.1 m.2).any (caught has)
    have simp1 : (!(!false && !(M.mv st).any q2)) = (M.mv st).any q2 := by simp
    show ((!(!false && !(M.mv st).any q2)) = true → _) ∧ ((!(!false && !(M.mv st).any q2)) = false → _)
    rw [simp1]
    suffices inner : DS K _ s4 [.gone] (if (M.mv st).any q2 = true then .rt (.dat (.bl false)) [.gone] else .nx s4 [.gone]) by
      refine ⟨fun yes => parts _ _ _ (ds_if_f c1 ds_next) ?_, fun no => ⟨s4, parts _ _ _ (ds_if_f c1 ds_next) ?_, rfl⟩⟩
      · rw [if_pos yes] at inner
        exact inner
      · rw [if_neg (by rw [no]; exact Bool.false_ne_true)] at inner
        exact inner
    refine ds_searchL (fun m : Nat × Nat => mvD m.1 m.2) (0, 0) (M.mv st) [5, 6] rfl (dt_call (da_cons (dt_var (i := 0) rfl) (da_cons (dt_var (i := 4) rfl) da_nil)) ⟨M, st, rfl, inR hM ok, by rw [moves_eq]⟩) q2 fun mv hmv => ?_
    let es := M.endsS st mv.1 mv.2
    let s5 : Sl := s4.set 5 (some (.dat (mvD mv.1 mv.2)))
    let s6 : Sl := s5.set 6 (some (.dat (.lst (es.map stO))))
    have a1 : ∀ (t1 t2 : TS) (out : Out), DS K t1 s5 [.gone] (.nx s6 [.gone]) → DS K t2 s6 [.gone] out → DS K (tSeq t1 t2) (s4.set 5 (some (.dat (mvD mv.1 mv.2)))) [.gone] out := fun _ _ _ x y => ds_seq x y
    have b2 : DS K (tAsg (tCall (spP K 3 (R_results T.C_Map)) [] E0 (tCons (tVar 0) (tCons (tVar 4) (tCons (tVar 5) tNil)))) (gName 6)) s5 [.gone] (.nx s6 [.gone]) := ds_set (i := 6) (dt_call (da_cons (dt_var (i := 0) rfl) (da_cons (dt_var (i := 4) rfl) (da_cons (dt_var (i := 5) rfl) da_nil))) ⟨M, st, mv.1, mv.2, rfl, inM hM ok hmv, by rw [ends_eq]⟩)
    suffices b3 : DB K _ s6 [.gone] (q2 mv) [.gone] from ⟨fun yes => a1 _ _ _ b2 (ds_if_t (yes ▸ b3) (ds_ret dt_bl)), fun no => ⟨s6, a1 _ _ _ b2 (ds_if_f (no ▸ b3) ds_next), rfl⟩⟩
    refine db_not (db_b (dt_anyL stO none es (dt_var (i := 6) rfl) (Nat.le_trans (ends_len ok mv.1 mv.2) (by decide)) (caught has) fun o ho => ?_))
    cases o with
    | none => exact dt_orV_t (dt_isN (d := .non) (dt_var (i := 7) rfl))
    | some z => exact dt_orV_f (dt_isN (d := stD z) (dt_var (i := 7) rfl)) (dt_dinZ (k := z.row) (m := m) (x := .lk m) (dt_var (i := 7) rfl) (dt_var (i := 3) rfl) .lk)
end
end K2
end
section
set_option Elab.async false
set_option linter.all false
set_option maxRecDepth 100000
set_option maxHeartbeats 4000000
namespace K2
open PySem PySem.Spec PyProof.Rows L2 DL
/-! ### the least money, by the moves alone; both tables tell it -/
/-- the greatest of several needs; none, if one of them is none -/
def worstL (vs : List (Option Int)) : Option Int := if vs.any Option.isNone then none else match vs.filterMap id with
  | [] => none
  | n :: ns => some (ns.foldl max n)
/-- n: how deep at most -/
def lst (M : MapD) : Nat → StD → Option Int
  | 0, _ => none
  | n + 1, s => (M.mv s).foldl (fun a m => newLeast a (M.fee s m.1) (worstL ((M.endsS s m.1 m.2).map fun e => e.bind (lst M n)))) (first M s)
theorem fold_congr {α β : Type} (f g : β → α → β) : ∀ (l : List α) (b : β), (∀ b, ∀ a ∈ l, f b a = g b a) → l.foldl f b = l.foldl g b
  | [], _, _ => rfl
  | a :: l, b, h => by
    show l.foldl f (f b a) = l.foldl g (g b a)
    rw [h b a List.mem_cons_self]
    exact fold_congr f g l _ fun b a' ha => h b a' (List.mem_cons_of_mem _ ha)
theorem lst_fuel {M : MapD} (hM : M.Ok) : ∀ (n m : Nat) (s : StD), s.Ok M → M.places - s.p ≤ (n : Int) → M.places - s.p ≤ (m : Int) → lst M n s = lst M m s
  | 0, _, s, hS, h, _ => by have := hS.p1; omega
  | _ + 1, 0, s, hS, _, h => by have := hS.p1; omega
  | n + 1, m + 1, s, hS, h1, h2 => by
    unfold lst
    refine fold_congr _ _ _ _ fun a mv hmv => ?_
    have e : ((M.endsS s mv.1 mv.2).map fun e => e.bind (lst M n)) = (M.endsS s mv.1 mv.2).map fun e => e.bind (lst M m) := by
      refine List.map_congr_left fun e he => ?_
      cases e with
      | none => rfl
      | some x =>
        have on := ends_on hM hmv he
        exact lst_fuel hM n m x (ends_ok hM hS hmv he) (by omega) (by omega)
    rw [e]
def MapD.least (M : MapD) (s : StD) : Option Int := lst M 5 s
/-- the table tells the least money, wherever it tells anything -/
def Tells (M : MapD) (c : Costs) : Prop := ∀ s : StD, s.Ok M → ∀ d, getI c s.row = some d → d = optD (M.least s)
theorem optD_inj : ∀ {a b : Option Int}, optD a = optD b → a = b
  | none, none, _ => rfl
  | some x, some y, h => by cases h; rfl
  | none, some y, h => by cases h
  | some x, none, h => by cases h
theorem least_next {M : MapD} (hM : M.Ok) {s : StD} (hS : s.Ok M) : M.least s = (M.mv s).foldl (fun a m => newLeast a (M.fee s m.1) (worstL ((M.endsS s m.1 m.2).map fun e => e.bind M.least))) (first M s) := by
  have p0 := hS.p0
  have p5 := hM.p5
  unfold MapD.least
  rw [lst_fuel hM 5 6 s hS (by omega) (by omega)]
  rfl
theorem worst_tells {M : MapD} {c : Costs} (ht : Tells M c) : ∀ {es : List (Option StD)}, (∀ s, some s ∈ es → s.Ok M) → Priced c es → worst c es = worstL (es.map fun e => e.bind M.least) := fun {es} hok pr => by
  have e : es.map (costO c) = es.map fun e => e.bind M.least := by
    refine List.map_congr_left fun e he => ?_
    cases e with
    | none => rfl
    | some x =>
      obtain ⟨v, hv⟩ := pr x he
      have := ht x (hok x he) _ hv
      rw [costO_some hv]
      exact optD_inj this
  unfold worst worstL
  rw [← e, List.any_map, List.filterMap_map]
  rfl
theorem row_inj2 {s t : StD} (h : s.row = t.row) : s = t := by
  cases s
  cases t
  simp only [StD.row, List.cons.injEq, and_true] at h
  obtain ⟨rfl, rfl, rfl, rfl⟩ := h
  rfl
theorem Tells.put {M : MapD} {c : Costs} (h : Tells M c) {s : StD} {v : Option Int} (e : v = M.least s) : Tells M (putI c s.row (optD v)) := fun t ht d hd => by
  rw [getI_put] at hd
  by_cases z : t.row = s.row
  · rw [if_pos z] at hd
    cases hd
    rw [row_inj2 z, e]
  · rw [if_neg z] at hd
    exact h t ht d hd
/-- addC's table tells the least money -/
theorem addC_tells {M : MapD} (hM : M.Ok) : ∀ (n : Nat) (s : StD) (c : Costs), s.Ok M → M.places - s.p ≤ (n : Int) → Tab c → Tells M c → Tells M (addC M n s c)
  | 0, s, c, hS, h, _, _ => by have := hS.p1; omega
  | n + 1, s, c, hS, hn, t, ht => by
    rw [addC_succ]
    by_cases there : (getI c s.row).isSome = true
    · rw [if_pos there]
      exact ht
    rw [if_neg there]
    -- behind the moves
    have key : ∀ (l : List (Nat × Nat)), (∀ m ∈ l, m ∈ M.mv s) → ∀ (a : Costs × Option Int), Tab a.1 → Tells M a.1 →
        Tells M (l.foldl (addMove M n s) a).1 ∧ (l.foldl (addMove M n s) a).2 = l.foldl (fun b m => newLeast b (M.fee s m.1) (worstL ((M.endsS s m.1 m.2).map fun e => e.bind M.least))) a.2 := fun l => by
      induction l with
      | nil => exact fun _ a _ h => ⟨h, rfl⟩
      | cons m l ih =>
        intro hl a ta ha
        have hm := hl m List.mem_cons_self
        have far := mv_far hM hm
        obtain ⟨w1, w2, w3⟩ := walk_ends hM hS hm n (M.endsS s m.1 m.2) (fun _ h => h) a.1 ta
        have tl : ∀ (es : List (Option StD)), (∀ e ∈ es, e ∈ M.endsS s m.1 m.2) → ∀ c : Costs, Tab c → Tells M c → Tells M (es.foldl (addEnd M n) c) := fun es => by
          induction es with
          | nil => exact fun _ c _ h => h
          | cons e es ih2 =>
            intro hes c tc hc
            have he := hes e List.mem_cons_self
            refine ih2 (fun x hx => hes x (List.mem_cons_of_mem _ hx)) _ ?_ ?_
            · cases e with
              | none => exact tc
              | some x => exact addC_tab hM n x c (ends_ok hM hS hm he) tc
            · cases e with
              | none => exact hc
              | some x =>
                have on := ends_on hM hm he
                exact addC_tells hM n x c (ends_ok hM hS hm he) (by omega) tc hc
        have t1 := tl (M.endsS s m.1 m.2) (fun _ h => h) a.1 ta ha
        have wt := worst_tells t1 (es := M.endsS s m.1 m.2) (fun x hx => ends_ok hM hS hm hx) (w3 (by omega))
        obtain ⟨i1, i2⟩ := ih (fun x hx => hl x (List.mem_cons_of_mem _ hx)) (addMove M n s a m) w1 t1
        refine ⟨i1, i2.trans ?_⟩
        show l.foldl _ (newLeast a.2 (M.fee s m.1) (worst ((M.endsS s m.1 m.2).foldl (addEnd M n) a.1) (M.endsS s m.1 m.2))) = l.foldl _ (newLeast a.2 _ _)
        rw [wt]
    obtain ⟨k1, k2⟩ := key (M.mv s) (fun _ h => h) (c, first M s) t ht
    refine k1.put (k2.trans ?_)
    rw [least_next hM hS]
theorem tells_nil (M : MapD) : Tells M [] := fun s _ d h => by cases h
/-- sure_cost tells the least money -/
theorem cost_least {M : MapD} (hM : M.Ok) {s : StD} (hS : s.Ok M) : M.cost s = M.least s := by
  have p0 := hS.p0
  have p5 := hM.p5
  have h := addC_tells hM 5 s [] hS (by omega) Tab.nil (tells_nil M) s hS _ (table_has hM)
  exact optD_inj h
end K2
end
section
set_option Elab.async false
set_option linter.all false
set_option maxRecDepth 100000
set_option maxHeartbeats 4000000
namespace K2
open PySem PySem.Spec PyProof.Rows L2 DL
/-! ### the law's own search is the least money too -/
theorem fee_nn {M : MapD} (hM : M.Ok) {s : StD} (hS : s.Ok M) {m : Nat × Nat} (h : m ∈ M.mv s) : 0 ≤ M.fee s m.1 := by
  have f := feeOk hM hS h
  show 0 ≤ M.feeAt s.p m.1
  unfold MapD.feeAt
  cases q : M.price s.p with
  | none => exact Int.le_refl 0
  | some x =>
    obtain ⟨x1, x9⟩ := f.pr x q
    exact Int.mul_nonneg (by omega) (by omega)
theorem worst_mem {vs : List (Option Int)} {v : Int} (h : worstL vs = some v) : (some v ∈ vs) ∧ (∀ o ∈ vs, ∃ x, o = some x ∧ x ≤ v) := by
  unfold worstL at h
  by_cases a : vs.any Option.isNone = true
  · rw [if_pos a] at h
    cases h
  · rw [if_neg a] at h
    rw [Bool.not_eq_true] at a
    have each : ∀ o ∈ vs, ∃ x, o = some x := fun o ho => by
      cases o with
      | none =>
        have : vs.any Option.isNone = true := List.any_eq_true.mpr ⟨none, ho, rfl⟩
        rw [a] at this
        cases this
      | some x => exact ⟨x, rfl⟩
    cases q : vs.filterMap id with
    | nil => rw [q] at h; cases h
    | cons n ns =>
      rw [q] at h
      have e : ns.foldl max n = v := Option.some.inj h
      obtain ⟨f1, f2⟩ := fold_max ns n
      rw [e] at f1 f2
      rw [← q] at f1 f2
      refine ⟨?_, fun o ho => ?_⟩
      · obtain ⟨o, ho, eo⟩ := List.mem_filterMap.mp f1
        have : o = some v := eo
        exact this ▸ ho
      · obtain ⟨x, rfl⟩ := each o ho
        exact ⟨x, rfl, f2 x (List.mem_filterMap.mpr ⟨some x, ho, rfl⟩)⟩
theorem fold_nn {f : Nat × Nat → Int} {g : Nat × Nat → Option Int} : ∀ (l : List (Nat × Nat)) (a : Option Int), (∀ m ∈ l, ∀ v, g m = some v → 0 ≤ f m + v) → (∀ v, a = some v → 0 ≤ v) → ∀ v, l.foldl (fun a m => newLeast a (f m) (g m)) a = some v → 0 ≤ v
  | [], a, _, h, v, e => h v e
  | m :: l, a, hl, h, v, e => fold_nn l (newLeast a (f m) (g m)) (fun x hx => hl x (List.mem_cons_of_mem _ hx)) (fun w hw => by
      cases q : g m with
      | none =>
        rw [q] at hw
        exact h w hw
      | some x =>
        rw [q] at hw
        have p := hl m List.mem_cons_self x q
        cases a with
        | none =>
          have e : f m + x = w := Option.some.inj hw
          omega
        | some l =>
          have e : (if f m + x < l then f m + x else l) = w := Option.some.inj hw
          have := h l rfl
          split at e <;> omega) v e
theorem lst_nn {M : MapD} (hM : M.Ok) : ∀ (n : Nat) (s : StD), s.Ok M → ∀ v, lst M n s = some v → 0 ≤ v
  | 0, s, _, v, h => by cases h
  | n + 1, s, hS, v, h => by
    unfold lst at h
    refine fold_nn (M.mv s) (first M s) (fun m hm x hx => ?_) (fun w hw => ?_) v h
    · obtain ⟨w1, -⟩ := worst_mem hx
      obtain ⟨e, he, eb⟩ := List.mem_map.mp w1
      cases e with
      | none => cases eb
      | some z =>
        have := lst_nn hM n z (ends_ok hM hS hm he) x eb
        have := fee_nn hM hS hm
        omega
    · unfold first at hw
      split at hw
      · cases hw; exact Int.le_refl 0
      · cases hw
theorem least_nn {M : MapD} (hM : M.Ok) {s : StD} (hS : s.Ok M) {v : Int} (h : M.least s = some v) : 0 ≤ v := lst_nn hM 5 s hS v h
/-- the table of the law's own search -/
def worthC (M : MapD) : Nat → StD → Costs → Costs
  | 0, _, c => c
  | n + 1, s, c => if (getI c s.row).isSome = true then c else putI ((M.mv s).foldl (fun c m => if (M.endsS s m.1 m.2).any Option.isNone = true then c else (M.endsS s m.1 m.2).foldl (fun c e => match e with | none => c | some e => worthC M n e c) c) c) s.row (optD (M.least s))
def worthEnd (M : MapD) (n : Nat) (c : Costs) (e : Option StD) : Costs := match e with
  | none => c
  | some e => worthC M n e c
def worthMove (M : MapD) (n : Nat) (s : StD) (c : Costs) (m : Nat × Nat) : Costs := if (M.endsS s m.1 m.2).any Option.isNone = true then c else (M.endsS s m.1 m.2).foldl (worthEnd M n) c
theorem worthC_succ (M : MapD) (n : Nat) (s : StD) (c : Costs) : worthC M (n + 1) s c = if (getI c s.row).isSome = true then c else putI ((M.mv s).foldl (worthMove M n s) c) s.row (optD (M.least s)) := rfl
structure Good3 (M : MapD) (p : Int) (c c' : Costs) : Prop where
  tab : Tab c'
  tells : Tells M c'
  grows : Grows p c c'
theorem worth_ends {M : MapD} (hM : M.Ok) {n : Nat} (ih : ∀ (s : StD) (c : Costs), s.Ok M → M.places - s.p ≤ (n : Int) → Tab c → Tells M c → Good3 M s.p c (worthC M n s c)) {s : StD} (hS : s.Ok M) (hn : M.places - s.p ≤ ((n + 1 : Nat) : Int)) {m : Nat × Nat} (hm : m ∈ M.mv s) :
    ∀ (es : List (Option StD)), (∀ e ∈ es, e ∈ M.endsS s m.1 m.2) → ∀ c : Costs, Tab c → Tells M c → Good3 M (s.p + 1) c (es.foldl (worthEnd M n) c)
  | [], _, c, t, h => ⟨t, h, Grows.refl _ _⟩
  | e :: es, hes, c, t, h => by
    have he := hes e List.mem_cons_self
    have rest := worth_ends hM ih hS hn hm es (fun x hx => hes x (List.mem_cons_of_mem _ hx))
    cases e with
    | none => exact rest c t h
    | some x =>
      have on := ends_on hM hm he
      have g := ih x c (ends_ok hM hS hm he) (by omega) t h
      have r := rest _ g.tab g.tells
      exact ⟨r.tab, r.tells, (g.grows.from on).trans r.grows⟩
theorem worth_moves {M : MapD} (hM : M.Ok) {n : Nat} (ih : ∀ (s : StD) (c : Costs), s.Ok M → M.places - s.p ≤ (n : Int) → Tab c → Tells M c → Good3 M s.p c (worthC M n s c)) {s : StD} (hS : s.Ok M) (hn : M.places - s.p ≤ ((n + 1 : Nat) : Int)) :
    ∀ (l : List (Nat × Nat)), (∀ m ∈ l, m ∈ M.mv s) → ∀ c : Costs, Tab c → Tells M c → Good3 M (s.p + 1) c (l.foldl (worthMove M n s) c)
  | [], _, c, t, h => ⟨t, h, Grows.refl _ _⟩
  | m :: l, hl, c, t, h => by
    have hm := hl m List.mem_cons_self
    have g : Good3 M (s.p + 1) c (worthMove M n s c m) := by
      unfold worthMove
      split
      · exact ⟨t, h, Grows.refl _ _⟩
      · exact worth_ends hM ih hS hn hm _ (fun _ h => h) c t h
    have r := worth_moves hM ih hS hn l (fun x hx => hl x (List.mem_cons_of_mem _ hx)) _ g.tab g.tells
    exact ⟨r.tab, r.tells, g.grows.trans r.grows⟩
theorem worth_good {M : MapD} (hM : M.Ok) : ∀ (n : Nat) (s : StD) (c : Costs), s.Ok M → M.places - s.p ≤ (n : Int) → Tab c → Tells M c → Good3 M s.p c (worthC M n s c)
  | 0, s, c, hS, h, _, _ => by have := hS.p1; omega
  | n + 1, s, c, hS, hn, t, h => by
    rw [worthC_succ]
    by_cases there : (getI c s.row).isSome = true
    · rw [if_pos there]
      exact ⟨t, h, Grows.refl _ _⟩
    rw [if_neg there]
    have none_ : getI c s.row = none := by simpa using there
    have g := worth_moves hM (worth_good hM n) hS hn (M.mv s) (fun _ h => h) c t h
    refine ⟨g.tab.put (row_in hM hS), g.tells.put rfl, fun k d hd => ?_, fun k d hd => ?_⟩
    · rw [getI_put]
      have ne : ¬ k = s.row := fun z => by
        rw [z, none_] at hd
        cases hd
      rw [if_neg ne]
      exact g.grows.kept k d hd
    · rw [getI_put] at hd
      by_cases z : k = s.row
      · exact .inr (by rw [z, row_p]; exact Int.le_refl _)
      · rw [if_neg z] at hd
        exact (g.grows.new k d hd).imp id fun q => by omega
theorem worth_has {M : MapD} (hM : M.Ok) {n : Nat} {s : StD} {c : Costs} (hS : s.Ok M) (hn : M.places - s.p ≤ (n : Int)) (h : Tells M c) : getI (worthC M n s c) s.row = some (optD (M.least s)) := by
  match n, hn with
  | 0, hn => have := hS.p1; omega
  | n + 1, hn =>
    rw [worthC_succ]
    by_cases there : (getI c s.row).isSome = true
    · rw [if_pos there]
      obtain ⟨d, hd⟩ := Option.isSome_iff_exists.mp there
      rw [hd, h s hS d hd]
    · rw [if_neg there, getI_put, if_pos rfl]
/-- the least money behind the first so many moves -/
def bestTo (M : MapD) (s : StD) (l : List (Nat × Nat)) : Option Int := l.foldl (fun a m => newLeast a (M.fee s m.1) (worstL ((M.endsS s m.1 m.2).map fun e => e.bind M.least))) (first M s)
theorem done_none {M : MapD} (hM : M.Ok) {s : StD} (h : M.done s = true) : M.mv s = [] := by
  cases q : M.mv s with
  | nil => rfl
  | cons m l =>
    have far := mv_far hM (s := s) (m := m) (by rw [q]; exact List.mem_cons_self)
    have : s.p = M.places - 1 := of_decide_eq_true h
    omega
end K2
end
section
set_option Elab.async false
set_option linter.all false
set_option maxRecDepth 100000
set_option maxHeartbeats 4000000
namespace K2
open PySem PySem.Spec PyProof.Rows L2 DL
section
variable {P : Program} {w : World} {K : PySem.W.Frag} {mg : Str → Option Value} {base : Heap} {k : Nat}
/-- None not in the needs -/
theorem dt_noneNotInO {ss : Sl} {mem m1 m2 : List Mc} {ta tb : TE} {vs : List (Option Int)} (ha : DT K ta ss mem (.dat .non) m1) (hb : DT K tb ss m1 (.dat (.lst (vs.map optD))) m2) : DT K (tOp (rNotInD K) ta tb) ss mem (.dat (.bl (!vs.any Option.isNone))) m2 :=
  dt_op ha hb fun B H al σ v w Q S hv hw k => by
    have h2 := Rep.dp S.sub 2 (.lst (vs.map optD)) hw (flat_opts vs)
    have h3 := flat_shaped (flat_opts vs) (by decide)
    rw [D.py] at h2 h3
    refine ⟨D.non.py, D.pyAll (vs.map optD), Rep.dp S.sub 0 .non hv rfl, h2, flat_shaped (n := 0) (d := .non) rfl (by decide), h3, ?_⟩
    rw [none_anyI]
    exact k _ _ _ _ (Stp.refl _ _ _) S (.bl _)
def R_worthN (C : Addr) (n : Nat) (args : List Vl) (m : Mc) (d : D) (m' : Mc) : Prop := ∃ (M : MapD) (s : StD) (c : Costs), args = [.dat (mapD C M), .dat (stD s), .own 0] ∧ m = .dic c ∧ M.Ok ∧ s.Ok M ∧ Tab c ∧ Tells M c ∧ M.places - s.p ≤ (n : Int) ∧ d = optD (M.least s) ∧ m' = .dic (worthC M n s c)
theorem ok_worthN (T : Txt K mg) : ∀ n : Nat, FnOk P w K mg base CX0 (n + 6) T.a__law_worth T.fd__law_worth ["_law_chart", "_law_state_here", "_law_met"] (spM K 3 (R_worthN T.C_Map n))
  | 0 => by
    have no : ∀ vs H Q E, ¬ spM K 3 (R_worthN T.C_Map 0) vs H Q E := by
      rintro vs H Q E ⟨B, al, args, mem, d, mem', ⟨m, m', -, -, M, s, c, -, -, hM, hS, -, -, hp, -⟩, -⟩
      have := hS.p1
      omega
    exact ⟨fun vs H Q E h => (no vs H Q E h).elim, fun A outer s H args us vs Q E _ _ _ _ h => (no vs H Q E h).elim⟩
  | n + 1 => by
    have ih := ok_worthN T n
    refine fnM (k := n + 6) T.F__law_worth sc__law_worth rfl (fun cdv A outer s H E hr => ?_)
    refine ⟨_, (pss_cons (ps_if (pt_cmp (pc_dnotin (DL.rm1 hr) (pv 1) (pv 2))) (pss_cons (ps_set (i := 3) sc__law_worth.nd rfl (.inl rfl) (pe_ifExp (pt_cmpR op_eq (pe_ix (ixT K) (pv 1) pe_int (fun _ _ => rfl)) (pe_op op_sub (pe_prop (pv 0) T.cl T.PO_places (get_places (k := 0) T) (hr.mono (by omega)) T.b_Map_places .nil pass0 rfl) pe_int) (nomark _)) pe_int pe_non))
  (pss_cons (ps_for PassesOwn.never rfl (piList K (pe_ifExp (pt_cmp (pc_isN (pv 3))) (pe_call (ok__law_moves T) (hr.mono (by omega)) (by rfl) T.g__law_moves T.F__law_moves.kp T.b__law_moves .nil pass0 (pa_cons (pv 0) (pa_cons (pv 1) pa_nil))) (pe_lst pa_nil))) (pg_name (i := 4) sc__law_worth.nd rfl (.inl rfl)) (pss_cons (ps_set (i := 5) sc__law_worth.nd rfl (.inl rfl) (pe_call (ok__law_ends T) (hr.mono (by omega)) (by rfl) T.g__law_ends T.F__law_ends.kp T.b__law_ends .nil pass0 (pa_cons (pv 0) (pa_cons (pv 1) (pa_cons (pv 4) pa_nil)))))
  (pss_cons (ps_set (i := 6) sc__law_worth.nd rfl (.inl rfl) (pe_lst (pa_cons pe_int pa_nil)))
  (pss_cons (ps_for PassesOwn.never rfl (piList K (pe_ifExp (pt_cmpR (opNotInD K (DL.room_in hr)) pe_non (pv 5) (by rfl)) (pv 5) (pe_lst pa_nil))) (pg_name (i := 7) sc__law_worth.nd rfl (.inl rfl)) (pss_one (ps_expr (pe_bm PySem.F.plainAttrs_list PySem.F.slot_list_append PySem.F.type_list_append mt_append (pv 6) (pa_cons (pe_call ih (hr.mono (by omega)) (by rfl) T.g__law_worth T.F__law_worth.kp T.b__law_worth .nil pass0 (pa_cons (pv 0) (pa_cons (pv 7) (pa_cons (pv 2) pa_nil)))) pa_nil)))))
  (pss_one (ps_if (PW.pt (pw_and (pt_cmpR (opNotInD K (DL.room_in hr)) pe_non (pv 5) (by rfl)) (pw_and1 (pt_cmpR (opNotInD K (DL.room_in hr)) pe_non (pv 6) (by rfl))))) (pss_cons (ps_set (i := 8) sc__law_worth.nd rfl (.inl rfl) (pe_op op_add (pe_call (ok__law_fees T) (hr.mono (by omega)) (by rfl) T.g__law_fees T.F__law_fees.kp T.b__law_fees .nil pass0 (pa_cons (pv 0) (pa_cons (pe_ix (ixT K) (pv 1) pe_int (fun _ _ => rfl)) (pa_cons (pe_ix (ixT K) (pv 4) pe_int (fun _ _ => rfl)) pa_nil)))) (pe_callB (cr_max rfl) (by rfl) T.n_max (by decide +kernel) (pa_cons (pv 6) pa_nil))))
  (pss_one (ps_set (i := 3) sc__law_worth.nd rfl (.inl rfl) (pe_callB (crMin K) (by rfl) T.n_min (by decide +kernel) (pa_cons (pe_op op_cat (pe_lst (pa_cons (pv 8) pa_nil)) (pe_ifExp (pt_cmp (pc_isN (pv 3))) (pe_lst pa_nil) (pe_lst (pa_cons (pv 3) pa_nil)))) pa_nil))))) pss_nil))))))
  (pss_one (ps_dput (DL.rm1 hr) (pv 2) (pv 1) (pv 3) rfl)))) pss_nil)
  (pss_one (ps_ret (pe_dget (DL.rm1 hr) (pv 2) (pv 1) (fun _ _ => rfl))))), ?_⟩
    rintro args m d m' ⟨M, s, c, rfl, rfl, hM, hS, t, ht, hp, rfl, rfl⟩ -
    let vM : Option Vl := some (.dat (mapD T.C_Map M))
    let vs : Option Vl := some (.dat (stD s))
    let s0 : Sl := [vM, vs, some (.own 0), none, none, none, none, none, none]
    have dni : DB K _ s0 [.dic c] (!(getI c s.row).isSome) [.dic c] := db_b (dt_dnotin (k := s.row) (m := c) (x := .own 0) (dt_var (i := 1) rfl) (dt_var (i := 2) rfl) (.own rfl))
    have has := worth_has hM (n := n + 1) (c := c) hS hp ht
    rw [worthC_succ] at has ⊢
    by_cases there : (getI c s.row).isSome = true
    · rw [if_pos there] at has ⊢
      rw [there] at dni
      exact .rt (ds_seq (ds_if_f dni ds_next) (ds_ret (dt_dget (k := s.row) (m := c) (x := .own 0) (dt_var (i := 2) rfl) (dt_var (i := 1) rfl) (.own rfl) has)))
    rw [if_neg there] at has ⊢
    rw [Bool.not_eq_true] at there
    rw [there] at dni
    let mvs := M.mv s
    let z0 : Nat × Nat := (0, 0)
    let cs : Nat → Costs := fun i => (mvs.take i).foldl (worthMove M n s) c
    let bs : Nat → Option Int := fun i => bestTo M s (mvs.take i)
    let f : Nat → Sl := fun i => [vM, vs, some (.own 0), some (.dat (optD (bs i))), none, none, none, none, none]
    have good : ∀ i, Good3 M (s.p + 1) c (cs i) := fun i => worth_moves hM (worth_good hM n) hS hp (mvs.take i) (fun m hm => List.mem_of_mem_take hm) c t ht
    have whole : cs mvs.length = mvs.foldl (worthMove M n s) c := by
      show (mvs.take mvs.length).foldl _ _ = _
      rw [List.take_length]
    have wholeB : bs mvs.length = M.least s := by
      show bestTo M s (mvs.take mvs.length) = _
      rw [List.take_length, least_next hM hS]
      rfl
    refine .rt (ds_seq (ss1 := f mvs.length) (m1 := [.dic (putI (mvs.foldl (worthMove M n s) c) s.row (optD (M.least s)))]) (ds_if_t dni ?_) (ds_ret (dt_dget (k := s.row) (m := _) (x := .own 0) (dt_var (i := 2) rfl) (dt_var (i := 1) rfl) (.own rfl) has)))
    refine ds_seq (ss1 := f 0) (m1 := [.dic c]) (ds_set (i := 3) (r := .dat (optD (first M s))) ?_) ?_
    · refine dt_if (db_goal (s := s) (dt_var (i := 1) rfl) (dt_prop (gs := mapFs M) (dt_var (i := 0) rfl) rfl)) ?_
      unfold first
      cases q : M.done s with
      | true => exact dt_int
      | false => exact dt_non
    refine ds_seq (ss1 := f mvs.length) (m1 := [.dic (cs mvs.length)]) (ds_forW [4, 5, 6, 7, 8] f (fun i => [.dic (cs i)]) rfl (di_map (fun m : Nat × Nat => mvD m.1 m.2) mvs ?_) (fun _ => rfl) (fun _ => rfl) fun i hi => ?_) ?_
    · cases q : M.done s with
      | true =>
        have e : first M s = some 0 := if_pos q
        have h3 : (f 0)[3]? = some (some (.dat (.int 0))) := by
          show some (some (Vl.dat (optD (first M s)))) = _
          rw [e]
          rfl
        have em : mvs = [] := done_none hM q
        rw [em]
        exact dt_if_f (db_b (dt_isN (d := .int 0) (dt_var (i := 3) h3))) (dt_lst da_nil)
      | false =>
        have e : first M s = none := if_neg (by rw [q]; exact Bool.false_ne_true)
        have h3 : (f 0)[3]? = some (some (.dat .non)) := by
          show some (some (Vl.dat (optD (first M s)))) = _
          rw [e]
          rfl
        exact dt_if_t (db_b (dt_isN (d := .non) (dt_var (i := 3) h3))) (dt_call (da_cons (dt_var (i := 0) rfl) (da_cons (dt_var (i := 1) rfl) da_nil)) ⟨M, s, rfl, inR hM hS, by rw [moves_eq]⟩)
    · have mem : mvs.getD i z0 ∈ M.mv s := getD_in hi z0
      have nextC : cs (i + 1) = worthMove M n s (cs i) (mvs.getD i z0) := fold_snoc (worthMove M n s) c hi z0
      have nextB : bs (i + 1) = newLeast (bs i) (M.fee s (mvs.getD i z0).1) (worstL ((M.endsS s (mvs.getD i z0).1 (mvs.getD i z0).2).map fun e => e.bind M.least)) := fold_snoc (fun (a : Option Int) (m : Nat × Nat) => newLeast a (M.fee s m.1) (worstL ((M.endsS s m.1 m.2).map fun e : Option StD => e.bind M.least))) (first M s) hi z0
      have gi := good i
      rw [nthD_map (fun m : Nat × Nat => mvD m.1 m.2) hi z0]
      have fi : f i = [vM, vs, some (.own 0), some (.dat (optD (bs i))), none, none, none, none, none] := rfl
      have fi1 : f (i + 1) = [vM, vs, some (.own 0), some (.dat (optD (bs (i + 1)))), none, none, none, none, none] := rfl
      rw [fi, fi1, nextB, nextC]
      generalize mvs.getD i z0 = mv at mem
      generalize bs i = b
      generalize cs i = cc at gi
      let es := M.endsS s mv.1 mv.2
      have h5 : es.length ≤ 5 := ends_len hS _ _
      let vb : Option Vl := some (.dat (optD b))
      let vm : Option Vl := some (.dat (mvD mv.1 mv.2))
      let ve : Option Vl := some (.dat (.lst (es.map stO)))
      let s4 : Sl := [vM, vs, some (.own 0), vb, vm, none, none, none, none]
      let s5 : Sl := [vM, vs, some (.own 0), vb, vm, ve, none, none, none]
      let s6 : Sl := [vM, vs, some (.own 0), vb, vm, ve, some (.own 1), none, none]
      have step5 : DS K (tAsg (tCall (spP K 3 (R_results T.C_Map)) [] E0 (tCons (tVar 0) (tCons (tVar 1) (tCons (tVar 4) tNil)))) (gName 5)) s4 [.dic cc] (.nx s5 [.dic cc]) := ds_set (i := 5) (dt_call (da_cons (dt_var (i := 0) rfl) (da_cons (dt_var (i := 1) rfl) (da_cons (dt_var (i := 4) rfl) da_nil))) ⟨M, s, mv.1, mv.2, rfl, inM hM hS mem, by rw [ends_eq]⟩)
      have step6 : DS K (tAsg (tLst (tCons (tC (.int 0)) tNil)) (gName 6)) s5 [.dic cc] (.nx s6 [.dic cc, .lst [.int 0]]) := ds_set (i := 6) (dt_lstO (da_cons dt_int da_nil))
      have tail : ∀ (t7 t8 : TS) (c1 : Costs) (vals : List (Option Int)) (s' : Sl), DS K t7 s6 [.dic cc, .lst [.int 0]] (.nx s6 [.dic c1, .lst (vals.map optD)]) → DS K t8 [vM, vs, some (.own 0), vb, vm, ve, some (.dat (.lst (vals.map optD))), none, none] [.dic c1, .gone] (.nx s' [.dic c1, .gone]) →
          DS K (tSeq (tAsg (tCall (spP K 3 (R_results T.C_Map)) [] E0 (tCons (tVar 0) (tCons (tVar 1) (tCons (tVar 4) tNil)))) (gName 5)) (tSeq (tAsg (tLst (tCons (tC (.int 0)) tNil)) (gName 6)) (tSeq t7 t8))) (([vM, vs, some (.own 0), vb, none, none, none, none, none] : Sl).set 4 vm) [.dic cc] (.nx s' ([.dic c1] ++ [.gone])) := fun t7 t8 c1 vals s' a7 a8 =>
        ds_seq step5 (ds_seq step6 (ds_seq a7 (ds_frz (n := 1) (ds := vals.map optD) 6 rfl rfl a8)))
      cases gone : es.any Option.isNone with
      | true =>
        have eC : worthMove M n s cc mv = cc := if_pos gone
        have eB : newLeast b (M.fee s mv.1) (worstL (es.map fun e => e.bind M.least)) = b := by
          have a : (es.map fun e => e.bind M.least).any Option.isNone = true := by
            obtain ⟨o, ho, h⟩ := List.any_eq_true.mp gone
            cases o with
            | some x => cases h
            | none => exact List.any_eq_true.mpr ⟨none, List.mem_map.mpr ⟨none, ho, rfl⟩, rfl⟩
          unfold worstL
          rw [if_pos a]
          rfl
        rw [eC]
        show ∃ s' more, DS K _ _ _ _ ∧ wipeS s' _ = [vM, vs, some (.own 0), some (.dat (optD (newLeast b (M.fee s mv.1) (worstL (es.map fun e => e.bind M.least))))), none, none, none, none, none]
        rw [eB]
        refine ⟨[vM, vs, some (.own 0), vb, vm, ve, some (.dat (.lst ([some 0].map optD))), none, none], [.gone], tail _ _ cc [some 0] _ (ds_forW (n := ([] : List D).length) [7] (fun _ => s6) (fun _ => [.dic cc, .lst [.int 0]]) rfl (di_list (dt_if_f (db_is (db_test (dt_noneNotIn (es := es) dt_non (dt_var (i := 5) rfl))) (by rw [gone]; rfl)) (dt_lst da_nil))) (fun _ => rfl) (fun _ => rfl) fun i hi => absurd hi (Nat.not_lt_zero _)) (ds_if_f (db_and_f (db_is (db_test (dt_noneNotIn (es := es) dt_non (dt_var (i := 5) rfl))) (by rw [gone]; rfl))) ds_next), rfl⟩
      | false =>
        obtain ⟨zs, ez⟩ := all_some gone
        have zl : zs.length ≤ 5 := by
          have : (zs.map some).length ≤ 5 := by rw [← ez]; exact h5
          rw [List.length_map] at this
          exact this
        have est : es.map stO = zs.map stD := by
          rw [ez, List.map_map]
          rfl
        have inE : ∀ z ∈ zs, some z ∈ es := fun z hz => by rw [ez]; exact List.mem_map_of_mem hz
        let zz : StD := ⟨0, 0, 0, 0⟩
        let cj : Nat → Costs := fun j => ((zs.take j).map some).foldl (worthEnd M n) cc
        have gj : ∀ j, Good3 M (s.p + 1) cc (cj j) := fun j => worth_ends hM (worth_good hM n) hS hp mem ((zs.take j).map some) (fun e he => by
          obtain ⟨z, hz, rfl⟩ := List.mem_map.mp he
          exact inE z (List.mem_of_mem_take hz)) cc gi.tab gi.tells
        have eC : worthMove M n s cc mv = cj zs.length := by
          show (if es.any Option.isNone = true then cc else es.foldl (worthEnd M n) cc) = ((zs.take zs.length).map some).foldl (worthEnd M n) cc
          rw [gone, if_neg Bool.false_ne_true, List.take_length, ez]
        have eL : (es.map fun e => e.bind M.least) = zs.map M.least := by
          rw [ez, List.map_map]
          rfl
        rw [eC]
        show ∃ s' more, DS K _ _ _ _ ∧ wipeS s' _ = [vM, vs, some (.own 0), some (.dat (optD (newLeast b (M.fee s mv.1) (worstL (es.map fun e => e.bind M.least))))), none, none, none, none, none]
        rw [eL]
        have loop7 : ∀ tb0 : TS, (∀ (z : StD) (c' : Costs) (l : List D), z ∈ zs → Tab c' → Tells M c' → l.length ≤ 10 → DS K tb0 (s6.set 7 (some (.dat (stD z)))) [.dic c', .lst l] (.nx (s6.set 7 (some (.dat (stD z)))) [.dic (worthC M n z c'), .lst (l ++ [optD (M.least z)])])) →
            DS K (tFor (iList K (tIf (tTest (tOp (rNotInD K) (tC .non) (tVar 5))) (tVar 5) (tLst tNil))) (gName 7) tb0) s6 [.dic cc, .lst [.int 0]] (.nx s6 [.dic (cj zs.length), .lst ((some 0 :: zs.map M.least).map optD)]) := fun tb0 hb => by
          have h := ds_forW (K := K) (tb := tb0) (k := 7) [7] (ss := s6) (fun _ => s6) (fun j => [.dic (cj j), .lst ((some 0 :: (zs.take j).map M.least).map optD)]) rfl (di_map stD zs (m1 := [.dic cc, .lst [.int 0]]) (dt_if_t (tb := tLst tNil) (db_is (db_test (dt_noneNotIn (es := es) dt_non (dt_var (i := 5) rfl))) (by rw [gone]; rfl)) (dt_var (i := 5) (by rw [← est]; rfl)))) (fun _ => rfl) (fun _ => rfl) fun j hj => by
            rw [nthD_map stD hj zz]
            refine ⟨s6.set 7 (some (.dat (stD (zs.getD j zz)))), [], ?_, rfl⟩
            have tk : zs.take (j + 1) = zs.take j ++ [zs.getD j zz] := take_snoc hj zz
            have n1 : cj (j + 1) = worthC M n (zs.getD j zz) (cj j) := by
              show ((zs.take (j + 1)).map some).foldl _ _ = _
              rw [tk, List.map_append, List.foldl_append]
              rfl
            have n2 : (some 0 :: (zs.take (j + 1)).map M.least).map optD = (some 0 :: (zs.take j).map M.least).map optD ++ [optD (M.least (zs.getD j zz))] := by
              rw [tk]
              simp
            show DS K tb0 _ [.dic (cj j), .lst ((some 0 :: (zs.take j).map M.least).map optD)] (.nx _ ([.dic (cj (j + 1)), .lst ((some 0 :: (zs.take (j + 1)).map M.least).map optD)] ++ []))
            rw [n1, n2]
            exact hb _ _ _ (getD_in hj zz) (gj j).tab (gj j).tells (by rw [List.length_map, List.length_cons, List.length_map, List.length_take]; omega)
          rw [List.take_length] at h
          exact h
        let vals : List (Option Int) := some 0 :: zs.map M.least
        let s7 : Sl := [vM, vs, some (.own 0), vb, vm, ve, some (.dat (.lst (vals.map optD))), none, none]
        let fin : Option Int := newLeast b (M.fee s mv.1) (worstL (zs.map M.least))
        suffices last : ∃ s', DS K _ s7 [.dic (cj zs.length), .gone] (.nx s' [.dic (cj zs.length), .gone]) ∧ wipeS s' [4, 5, 6, 7, 8] = [vM, vs, some (.own 0), some (.dat (optD fin)), none, none, none, none, none] by
          obtain ⟨s', l1, l2⟩ := last
          refine ⟨s', [.gone], tail _ _ (cj zs.length) vals s' (loop7 _ fun z c' l hz tc hc hl => ?_) l1, l2⟩
          have on := ends_on hM mem (inE z hz)
          refine ds_drop (dt_append (n := 1) (ds := l) (m1 := [.dic c', .lst l]) (m2 := [.dic (worthC M n z c'), .lst l]) (dt_var (i := 6) rfl) (da_cons (dt_callM (p := 0) (m := .dic c') (m' := .dic (worthC M n z c')) (dav_cons (dt_var (i := 0) rfl) (dav_cons (dt_var (i := 7) rfl) (dav_cons (dt_var (i := 2) rfl) dav_nil))) ?_ rfl ⟨M, z, c', rfl, rfl, hM, ends_ok hM hS mem (inE z hz), tc, hc, by omega, rfl, rfl⟩) da_nil) rfl rfl (by omega))
          intro q hq
          simp only [List.mem_cons, List.not_mem_nil, or_false] at hq
          rcases hq with rfl | rfl | rfl
          · exact .inl ⟨_, rfl⟩
          · exact .inl ⟨_, rfl⟩
          · exact .inr rfl
        have d1 := db_is (db_test (dt_noneNotIn (K := K) (ss := s7) (mem := [.dic (cj zs.length), .gone]) (es := es) dt_non (dt_var (i := 5) rfl))) (c := true) (by rw [gone]; rfl)
        have d2 := db_test (dt_noneNotInO (K := K) (ss := s7) (mem := [.dic (cj zs.length), .gone]) (vs := vals) dt_non (dt_var (i := 6) rfl))
        have va : vals.any Option.isNone = (zs.map M.least).any Option.isNone := rfl
        rw [va] at d2
        cases nn : (zs.map M.least).any Option.isNone with
        | true =>
          rw [nn] at d2
          have ew : worstL (zs.map M.least) = none := if_pos nn
          refine ⟨s7, ds_if_f (db_and_t d1 d2) ds_next, ?_⟩
          show [vM, vs, some (.own 0), vb, none, none, none, none, none] = [vM, vs, some (.own 0), some (.dat (optD (newLeast b (M.fee s mv.1) (worstL (zs.map M.least))))), none, none, none, none, none]
          rw [ew]
          rfl
        | false =>
          rw [nn] at d2
          have some_ : ∀ z ∈ zs, ∃ x, M.least z = some x := fun z hz => by
            cases q : M.least z with
            | some x => exact ⟨x, rfl⟩
            | none =>
              have : (zs.map M.least).any Option.isNone = true := List.any_eq_true.mpr ⟨none, List.mem_map.mpr ⟨z, hz, q⟩, rfl⟩
              rw [nn] at this
              cases this
          have zne : zs ≠ [] := fun z => ends_ne hS mv.1 mv.2 (by show es = []; rw [ez, z]; rfl)
          obtain ⟨v, hv⟩ : ∃ v, worstL (zs.map M.least) = some v := by
            unfold worstL
            rw [nn, if_neg Bool.false_ne_true]
            cases q : (zs.map M.least).filterMap id with
            | cons n ns => exact ⟨_, rfl⟩
            | nil =>
              obtain ⟨z, hz⟩ := List.exists_mem_of_ne_nil zs zne
              obtain ⟨x, hx⟩ := some_ z hz
              have : x ∈ (zs.map M.least).filterMap id := List.mem_filterMap.mpr ⟨some x, List.mem_map.mpr ⟨z, hz, hx⟩, rfl⟩
              rw [q] at this
              cases this
          obtain ⟨w1, w2⟩ := worst_mem hv
          let xs : List Int := zs.map fun z => (M.least z).getD 0
          have exs : vals.map optD = ((0 : Int) :: xs).map D.int := by
            show D.int 0 :: (zs.map M.least).map optD = D.int 0 :: (zs.map fun z => (M.least z).getD 0).map D.int
            refine congrArg _ ?_
            rw [List.map_map, List.map_map]
            refine List.map_congr_left fun z hz => ?_
            obtain ⟨x, hx⟩ := some_ z hz
            show optD (M.least z) = D.int ((M.least z).getD 0)
            rw [hx]
            rfl
          have xin : v ∈ xs := by
            obtain ⟨z, hz, e⟩ := List.mem_map.mp w1
            exact List.mem_map.mpr ⟨z, hz, by rw [e]; rfl⟩
          have v0 : 0 ≤ v := by
            obtain ⟨z, hz, e⟩ := List.mem_map.mp w1
            exact least_nn hM (ends_ok hM hS mem (inE z hz)) e
          have most : ∀ y ∈ (0 : Int) :: xs, y ≤ v := fun y hy => by
            rcases List.mem_cons.mp hy with e | e
            · omega
            · obtain ⟨z, hz, rfl⟩ := List.mem_map.mp e
              obtain ⟨x, hx, le⟩ := w2 _ (List.mem_map_of_mem hz)
              show (M.least z).getD 0 ≤ v
              rw [hx]
              exact le
          let tot := M.fee s mv.1 + v
          have ef : fin = better b tot := by
            show newLeast b (M.fee s mv.1) (worstL (zs.map M.least)) = _
            rw [hv]
            rfl
          rw [ef]
          let s8 : Sl := [vM, vs, some (.own 0), vb, vm, ve, some (.dat (.lst (vals.map optD))), none, some (.dat (.int tot))]
          have set8 := ds_set (i := 8) (dt_i0 (g := fun i j => i + j) (dt_fees (E := E0) T (ta := tVar 0) (tb := tVar 1) (tc := tVar 4) (ss := s7) (mem := [.dic (cj zs.length), .gone]) hM hS mem (dt_var rfl) (dt_var rfl) (dt_var rfl)) (dt_maxL (ns := 0 :: xs) (dt_var (i := 6) (by rw [← exs]; rfl)) (List.mem_cons_of_mem _ xin) most))
          have both : ∀ (t1 t2 : TS) (d : D), DS K t1 s7 [.dic (cj zs.length), .gone] (.nx s8 [.dic (cj zs.length), .gone]) → DS K t2 s8 [.dic (cj zs.length), .gone] (.nx (s8.set 3 (some (.dat d))) [.dic (cj zs.length), .gone]) → DS K (tSeq t1 t2) s7 [.dic (cj zs.length), .gone] (.nx (s8.set 3 (some (.dat d))) [.dic (cj zs.length), .gone]) := fun _ _ _ x y => ds_seq x y
          refine ⟨s8.set 3 (some (.dat (optD (better b tot)))), ds_if_t (db_and_t d1 d2) (both _ _ _ set8 (ds_set (i := 3) ?_)), rfl⟩
          rcases Option.eq_none_or_eq_some b with q | ⟨l, q⟩
          · have h3 : s8[3]? = some (some (.dat .non)) := by
              show some (some (Vl.dat (optD b))) = _
              rw [q]
              rfl
            rw [q]
            exact dt_minL (ns := [tot]) (dt_tl (dt_catT (ds := [.int tot]) (es := []) (dt_lstT (da_cons (dt_var (i := 8) rfl) da_nil)) (dt_if_t (db_b (dt_isN (d := .non) (dt_var (i := 3) h3))) (dt_lstT da_nil)) (Nat.le_of_ble_eq_true rfl))) List.mem_cons_self (fun y hy => by rw [List.mem_singleton.mp hy]; exact Int.le_refl _)
          · have h3 : s8[3]? = some (some (.dat (.int l))) := by
              show some (some (Vl.dat (optD b))) = _
              rw [q]
              rfl
            rw [q]
            show DT K _ _ _ (.dat (.int (if tot < l then tot else l))) _
            have mins : (if tot < l then tot else l) ∈ [tot, l] ∧ ∀ y ∈ [tot, l], (if tot < l then tot else l) ≤ y := by
              by_cases h : tot < l
              · rw [if_pos h]
                refine ⟨List.mem_cons_self, fun y hy => ?_⟩
                rcases List.mem_cons.mp hy with e | e
                · omega
                · have := List.mem_singleton.mp e
                  omega
              · rw [if_neg h]
                refine ⟨List.mem_cons_of_mem _ List.mem_cons_self, fun y hy => ?_⟩
                rcases List.mem_cons.mp hy with e | e
                · omega
                · have := List.mem_singleton.mp e
                  omega
            exact dt_minL (ns := [tot, l]) (dt_tl (dt_catT (ds := [.int tot]) (es := [.int l]) (dt_lstT (da_cons (dt_var (i := 8) rfl) da_nil)) (dt_if_f (db_b (dt_isN (d := .int l) (dt_var (i := 3) h3))) (dt_lstT (da_cons (dt_var (i := 3) h3) da_nil))) (Nat.le_of_ble_eq_true rfl))) mins.1 mins.2
    · rw [whole]
      have few := (good mvs.length).tab.few
      rw [whole] at few
      have h3 : (f mvs.length)[3]? = some (some (.dat (optD (M.least s)))) := by
        rw [← wholeB]
        rfl
      exact ds_dput (n := 0) (k := s.row) (dt_var (i := 3) h3) (dt_var (i := 2) rfl) (dt_var (i := 1) rfl) rfl (Nat.lt_of_le_of_lt few (by decide))
end
end K2
end
section
set_option Elab.async false
set_option linter.all false
set_option maxRecDepth 100000
set_option maxHeartbeats 4000000
namespace K2
open PySem PySem.Spec PyProof.Rows L2 DL
/-! ### what sure tells is shown by itself -/
/-- all that can follow what the table has, it has too; its keys are states -/
structure Full (M : MapD) (c : Costs) : Prop where
  next : ∀ t : StD, t.Ok M → (getI c t.row).isSome = true → ∀ m ∈ M.mv t, ∀ x, some x ∈ M.endsS t m.1 m.2 → (getI c x.row).isSome = true
  keys : ∀ p ∈ c, (ofRow p.1).Ok M ∧ p.1 = (ofRow p.1).row
theorem Full.nil (M : MapD) : Full M [] := ⟨(fun t _ h => by cases h), (fun p h => by cases h)⟩
theorem mem_put {c : Costs} {k : List Int} {d : D} {p : List Int × D} (h : p ∈ putI c k d) : (∃ q ∈ c, q.1 = p.1) ∨ p.1 = k := by
  unfold putI at h
  split at h
  · obtain ⟨q, hq, rfl⟩ := List.mem_map.mp h
    refine .inl ⟨q, hq, ?_⟩
    show q.1 = (if q.1 = k then (q.1, d) else q).1
    split <;> rfl
  · rcases List.mem_append.mp h with z | z
    · exact .inl ⟨p, z, rfl⟩
    · exact .inr (by rw [List.mem_singleton.mp z])
theorem Full.put {M : MapD} {c : Costs} (h : Full M c) {s : StD} {v : Option Int} (hS : s.Ok M) (all : ∀ m ∈ M.mv s, ∀ x, some x ∈ M.endsS s m.1 m.2 → (getI c x.row).isSome = true) : Full M (putI c s.row (optD v)) := by
  have up : ∀ k, (getI c k).isSome = true → (getI (putI c s.row (optD v)) k).isSome = true := fun k hk => by
    rw [getI_put]
    split
    · rfl
    · exact hk
  refine ⟨fun t ht hin m hm x hx => up _ ?_, fun p hp => ?_⟩
  · rw [getI_put] at hin
    by_cases z : t.row = s.row
    · have e := row_inj2 z
      subst e
      exact all m hm x hx
    · rw [if_neg z] at hin
      exact h.next t ht hin m hm x hx
  · rcases mem_put hp with ⟨q, hq, e⟩ | e
    · have := h.keys q hq
      rw [e] at this
      exact this
    · rw [e]
      exact ⟨hS, rfl⟩
theorem kept_some {p : Int} {c c' : Costs} (g : Grows p c c') {k : List Int} (h : (getI c k).isSome = true) : (getI c' k).isSome = true := by
  obtain ⟨d, hd⟩ := Option.isSome_iff_exists.mp h
  rw [g.kept k d hd]
  rfl
theorem addC_full {M : MapD} (hM : M.Ok) : ∀ (n : Nat) (s : StD) (c : Costs), s.Ok M → M.places - s.p ≤ (n : Int) → Tab c → Full M c → Full M (addC M n s c)
  | 0, s, c, hS, h, _, _ => by have := hS.p1; omega
  | n + 1, s, c, hS, hn, t, hf => by
    rw [addC_succ]
    by_cases there : (getI c s.row).isSome = true
    · rw [if_pos there]
      exact hf
    rw [if_neg there]
    have ends : ∀ {m : Nat × Nat}, m ∈ M.mv s → ∀ (es : List (Option StD)), (∀ e ∈ es, e ∈ M.endsS s m.1 m.2) → ∀ c : Costs, Tab c → Full M c → Full M (es.foldl (addEnd M n) c) := fun {m} hm es => by
      induction es with
      | nil => exact fun _ c _ h => h
      | cons e es ih =>
        intro hes c tc hc
        have he := hes e List.mem_cons_self
        refine ih (fun x hx => hes x (List.mem_cons_of_mem _ hx)) _ ?_ ?_
        · cases e with
          | none => exact tc
          | some x => exact addC_tab hM n x c (ends_ok hM hS hm he) tc
        · cases e with
          | none => exact hc
          | some x =>
            have on := ends_on hM hm he
            exact addC_full hM n x c (ends_ok hM hS hm he) (by omega) tc hc
    have key : ∀ (l : List (Nat × Nat)), (∀ m ∈ l, m ∈ M.mv s) → ∀ (a : Costs × Option Int), Tab a.1 → Full M a.1 →
        Full M (l.foldl (addMove M n s) a).1 ∧ Grows (s.p + 1) a.1 (l.foldl (addMove M n s) a).1 ∧ ∀ m ∈ l, ∀ x, some x ∈ M.endsS s m.1 m.2 → (getI (l.foldl (addMove M n s) a).1 x.row).isSome = true := fun l => by
      induction l with
      | nil => exact fun _ a _ h => ⟨h, Grows.refl _ _, fun m hm => by cases hm⟩
      | cons m l ih =>
        intro hl a ta ha
        have hm := hl m List.mem_cons_self
        have far := mv_far hM hm
        obtain ⟨w1, w2, w3⟩ := walk_ends hM hS hm n (M.endsS s m.1 m.2) (fun _ h => h) a.1 ta
        obtain ⟨i1, i2, i3⟩ := ih (fun x hx => hl x (List.mem_cons_of_mem _ hx)) (addMove M n s a m) w1 (ends hm _ (fun _ h => h) a.1 ta ha)
        refine ⟨i1, w2.trans i2, fun m' hm' x hx => ?_⟩
        rcases List.mem_cons.mp hm' with e | e
        · subst e
          obtain ⟨v, hv⟩ := w3 (by omega) x hx
          exact kept_some i2 (by show (getI ((M.endsS s m'.1 m'.2).foldl (addEnd M n) a.1) x.row).isSome = true; rw [hv]; rfl)
        · exact i3 m' e x hx
    obtain ⟨k1, k2, k3⟩ := key (M.mv s) (fun _ h => h) (c, first M s) t hf
    exact k1.put hS k3
theorem table_full {M : MapD} (hM : M.Ok) {s : StD} (hS : s.Ok M) : Full M (M.table s) := by
  have p0 := hS.p0
  have p5 := hM.p5
  exact addC_full hM 5 s [] hS (by omega) Tab.nil (Full.nil M)
theorem table_tells {M : MapD} (hM : M.Ok) {s : StD} (hS : s.Ok M) : Tells M (M.table s) := by
  have p0 := hS.p0
  have p5 := hM.p5
  exact addC_tells hM 5 s [] hS (by omega) Tab.nil (tells_nil M)
/-! how the least of several needs comes about -/
theorem fold_some {f : Nat × Nat → Int} {g : Nat × Nat → Option Int} : ∀ (l : List (Nat × Nat)) (a : Option Int) (h : Int), l.foldl (fun a m => newLeast a (f m) (g m)) a = some h → a = some h ∨ ∃ m ∈ l, ∃ w, g m = some w ∧ f m + w = h
  | [], a, h, e => .inl e
  | m :: l, a, h, e => by
    rcases fold_some l (newLeast a (f m) (g m)) h e with z | ⟨m', hm', w, h1, h2⟩
    · cases q : g m with
      | none =>
        rw [q] at z
        exact .inl z
      | some w =>
        rw [q] at z
        cases a with
        | none => exact .inr ⟨m, List.mem_cons_self, w, q, Option.some.inj z⟩
        | some l' =>
          have z : (if f m + w < l' then f m + w else l') = h := Option.some.inj z
          split at z
          · exact .inr ⟨m, List.mem_cons_self, w, q, z⟩
          · exact .inl (by rw [z])
    · exact .inr ⟨m', List.mem_cons_of_mem _ hm', w, h1, h2⟩
theorem fold_low {f : Nat × Nat → Int} {g : Nat × Nat → Option Int} : ∀ (l : List (Nat × Nat)) (a : Option Int) (b : Int), a = some b → ∃ h, l.foldl (fun a m => newLeast a (f m) (g m)) a = some h ∧ h ≤ b
  | [], a, b, e => ⟨b, e, Int.le_refl _⟩
  | m :: l, a, b, e => by
    have one : ∃ b', newLeast a (f m) (g m) = some b' ∧ b' ≤ b := by
      subst e
      cases q : g m with
      | none => exact ⟨b, rfl, Int.le_refl _⟩
      | some w =>
        refine ⟨if f m + w < b then f m + w else b, rfl, ?_⟩
        split <;> omega
    obtain ⟨b', e1, le⟩ := one
    obtain ⟨h, e2, le2⟩ := fold_low l _ b' e1
    exact ⟨h, e2, Int.le_trans le2 le⟩
theorem fold_le {f : Nat × Nat → Int} {g : Nat × Nat → Option Int} : ∀ (l : List (Nat × Nat)) (a : Option Int) (m : Nat × Nat) (w : Int), m ∈ l → g m = some w → ∃ h, l.foldl (fun a m => newLeast a (f m) (g m)) a = some h ∧ h ≤ f m + w
  | m' :: l, a, m, w, hm, e => by
    rcases List.mem_cons.mp hm with z | z
    · subst z
      have one : ∃ b, newLeast a (f m) (g m) = some b ∧ b ≤ f m + w := by
        rw [e]
        cases a with
        | none => exact ⟨f m + w, rfl, Int.le_refl _⟩
        | some b =>
          refine ⟨if f m + w < b then f m + w else b, rfl, ?_⟩
          split <;> omega
      obtain ⟨b, e1, le⟩ := one
      obtain ⟨h, e2, le2⟩ := fold_low (f := f) (g := g) l _ b e1
      exact ⟨h, e2, Int.le_trans le2 le⟩
    · exact fold_le l _ m w z e
theorem least_done {M : MapD} (hM : M.Ok) {s : StD} (hS : s.Ok M) (h : M.done s = true) : M.least s = some 0 := by
  rw [least_next hM hS, done_none hM h]
  exact if_pos h
/-- a move that is enough -/
theorem least_move {M : MapD} (hM : M.Ok) {s : StD} (hS : s.Ok M) {h : Int} (e : M.least s = some h) : M.done s = true ∨ ∃ m ∈ M.mv s, ∃ w, worstL ((M.endsS s m.1 m.2).map fun e => e.bind M.least) = some w ∧ M.fee s m.1 + w = h := by
  rw [least_next hM hS] at e
  rcases fold_some _ _ _ e with z | z
  · refine .inl ?_
    unfold first at z
    split at z
    · assumption
    · cases z
  · exact .inr z
/-- no move needs less -/
theorem least_le {M : MapD} (hM : M.Ok) {s : StD} (hS : s.Ok M) {m : Nat × Nat} (hm : m ∈ M.mv s) {w : Int} (e : worstL ((M.endsS s m.1 m.2).map fun e => e.bind M.least) = some w) : ∃ h, M.least s = some h ∧ h ≤ M.fee s m.1 + w := by
  rw [least_next hM hS]
  exact fold_le _ _ m w hm e
theorem worst_some {vs : List (Option Int)} (ne : vs ≠ []) (all : ∀ o ∈ vs, ∃ x, o = some x) : ∃ w, worstL vs = some w := by
  have a : vs.any Option.isNone = false := by
    cases q : vs.any Option.isNone with
    | false => rfl
    | true =>
      obtain ⟨o, ho, h⟩ := List.any_eq_true.mp q
      obtain ⟨x, rfl⟩ := all o ho
      cases h
  unfold worstL
  rw [a, if_neg Bool.false_ne_true]
  cases q : vs.filterMap id with
  | cons n ns => exact ⟨_, rfl⟩
  | nil =>
    obtain ⟨o, ho⟩ := List.exists_mem_of_ne_nil vs ne
    obtain ⟨x, rfl⟩ := all o ho
    have : x ∈ vs.filterMap id := List.mem_filterMap.mpr ⟨some x, ho, rfl⟩
    rw [q] at this
    cases this
/-! looking up in the dicts that are made of the table -/
theorem look_hs : ∀ {c : Costs}, (c.map (·.1)).Nodup → ∀ k, lookI (hsOf c) k = (getI c k).bind valO
  | [], _, k => rfl
  | (r, d) :: c, nd, k => by
    have nd' := List.nodup_cons.mp nd
    have ih := look_hs nd'.2 k
    rw [hs_cons]
    show _ = (if r = k then some d else getI c k).bind valO
    cases q : valO d with
    | none =>
      by_cases e : r = k
      · rw [if_pos e]
        show lookI (hsOf c) k = valO d
        rw [ih, getI_fresh (by rw [← e]; exact nd'.1), q]
        rfl
      · rw [if_neg e]
        exact ih
    | some i =>
      show (if r = k then some i else lookI (hsOf c) k) = _
      by_cases e : r = k
      · rw [if_pos e, if_pos e]
        exact q.symm
      · rw [if_neg e, if_neg e]
        exact ih
theorem look_lev (most : Int) : ∀ {c : Costs}, (c.map (·.1)).Nodup → ∀ k, lookI (levOf c most) k = (getI c k).bind fun d => if 0 < lev most d then some (lev most d) else none
  | [], _, k => rfl
  | (r, d) :: c, nd, k => by
    have nd' := List.nodup_cons.mp nd
    have ih := look_lev most nd'.2 k
    have cons : levOf ((r, d) :: c) most = if 0 < lev most d then (r, lev most d) :: levOf c most else levOf c most := by
      unfold levOf levAll
      rw [List.map_cons]
      by_cases h : 0 < lev most d
      · rw [if_pos h, List.filter_cons_of_pos (by exact decide_eq_true h)]
      · rw [if_neg h, List.filter_cons_of_neg (by simpa using h)]
    rw [cons]
    show _ = (if r = k then some d else getI c k).bind fun d => if 0 < lev most d then some (lev most d) else none
    by_cases h : 0 < lev most d
    · rw [if_pos h]
      show (if r = k then some (lev most d) else lookI (levOf c most) k) = _
      by_cases e : r = k
      · rw [if_pos e, if_pos e]
        exact (if_pos h).symm
      · rw [if_neg e, if_neg e]
        exact ih
    · rw [if_neg h]
      by_cases e : r = k
      · rw [if_pos e, ih, getI_fresh (by rw [← e]; exact nd'.1)]
        exact (if_neg h).symm
      · rw [if_neg e]
        exact ih
theorem hs_key {c : Costs} {p : List Int × Int} (h : p ∈ hsOf c) : ∃ d, (p.1, d) ∈ c ∧ valO d = some p.2 := by
  obtain ⟨q, hq, e⟩ := List.mem_filterMap.mp h
  cases z : valO q.2 with
  | none => rw [z] at e; cases e
  | some i =>
    rw [z] at e
    cases e
    exact ⟨q.2, hq, z⟩
theorem lev_key {c : Costs} {most : Int} {p : List Int × Int} (h : p ∈ levOf c most) : ∃ d, (p.1, d) ∈ c ∧ lev most d = p.2 ∧ 0 < p.2 := by
  obtain ⟨h1, h2⟩ := List.mem_filter.mp h
  obtain ⟨q, hq, rfl⟩ := List.mem_map.mp h1
  exact ⟨q.2, hq, rfl, of_decide_eq_true h2⟩
section
variable {M : MapD} {s : StD}
theorem dct_hs (hM : M.Ok) (hS : s.Ok M) : Dct M (hsOf (M.table s)) := ⟨fun p hp => by
    obtain ⟨d, hd, -⟩ := hs_key hp
    exact (table_full hM hS).keys _ hd, hs_nd (table_tab hM hS)⟩
theorem dct_lev (hM : M.Ok) (hS : s.Ok M) (most : Int) : Dct M (levOf (M.table s) most) := ⟨fun p hp => by
    obtain ⟨d, hd, -⟩ := lev_key hp
    exact (table_full hM hS).keys _ hd, lev_nd (table_tab hM hS) most⟩
/-- what the table has of a state in it -/
theorem table_at (hM : M.Ok) (hS : s.Ok M) {t : StD} (ht : t.Ok M) (h : (getI (M.table s) t.row).isSome = true) : getI (M.table s) t.row = some (optD (M.least t)) := by
  obtain ⟨d, hd⟩ := Option.isSome_iff_exists.mp h
  rw [hd, table_tells hM hS t ht d hd]
theorem valO_optD : ∀ v : Option Int, valO (optD v) = v
  | none => rfl
  | some _ => rfl
theorem hs_at (hM : M.Ok) (hS : s.Ok M) {t : StD} (ht : t.Ok M) (h : (getI (M.table s) t.row).isSome = true) : lookI (hsOf (M.table s)) t.row = M.least t := by
  rw [look_hs (table_tab hM hS).nd, table_at hM hS ht h]
  exact valO_optD _
theorem key_in (hM : M.Ok) (hS : s.Ok M) {r : List Int} {d : D} (h : (r, d) ∈ M.table s) : (ofRow r).Ok M ∧ r = (ofRow r).row ∧ (getI (M.table s) (ofRow r).row).isSome = true ∧ d = optD (M.least (ofRow r)) := by
  obtain ⟨ok, er⟩ := (table_full hM hS).keys _ h
  have g := getI_of_mem (table_tab hM hS).nd _ h
  have g' : getI (M.table s) (ofRow r).row = some d := by
    rw [← er]
    exact g
  exact ⟨ok, er, by rw [g']; rfl, table_tells hM hS _ ok d g'⟩
theorem heights_true (hM : M.Ok) (hS : s.Ok M) : ((hsOf (M.table s)).all fun p => heightOk M (hsOf (M.table s)) (ofRow p.1)) = true := by
  refine List.all_eq_true.mpr fun p hp => ?_
  obtain ⟨d, hd, ev⟩ := hs_key hp
  obtain ⟨ok, er, inn, ed⟩ := key_in hM hS hd
  let t := ofRow p.1
  have lt : M.least t = some p.2 := by
    rw [ed, valO_optD] at ev
    exact ev
  have look : lookI (hsOf (M.table s)) t.row = some p.2 := by
    rw [hs_at hM hS ok inn]
    exact lt
  show heightOk M (hsOf (M.table s)) t = true
  unfold heightOk
  simp only [look, Option.getD_some]
  have nn := least_nn hM ok lt
  rw [decide_eq_false (by omega : ¬ p.2 < 0)]
  rcases least_move hM ok lt with dn | ⟨m, hm, w, hw, e⟩
  · rw [show M.done t = true from dn]
    rfl
  · have : ((M.mv t).any fun m => (M.endsS t m.1 m.2).all (within (hsOf (M.table s)) (p.2 - M.fee t m.1))) = true := by
      refine List.any_eq_true.mpr ⟨m, hm, List.all_eq_true.mpr fun o ho => ?_⟩
      obtain ⟨-, w2⟩ := worst_mem hw
      obtain ⟨x, hx, le⟩ := w2 _ (List.mem_map_of_mem ho)
      cases o with
      | none => cases hx
      | some z =>
        have hz := ends_ok hM ok hm ho
        have inz := (table_full hM hS).next t ok inn m hm z ho
        have lz : lookI (hsOf (M.table s)) z.row = some x := by
          rw [hs_at hM hS hz inz]
          exact hx
        unfold within
        simp only [lz]
        have e' : M.fee t m.1 + w = p.2 := e
        exact decide_eq_true (by omega)
    rw [this]
    simp
theorem lev_optD (most : Int) (v : Option Int) : lev most (optD v) = match v with
  | none => most
  | some i => if i < most then i else most := by
  cases v <;> rfl
theorem lev_le (most : Int) (d : D) : lev most d ≤ most := by
  unfold lev
  split
  · exact Int.le_refl _
  · split <;> omega
theorem lev_at (hM : M.Ok) (hS : s.Ok M) (most : Int) {t : StD} (ht : t.Ok M) (h : (getI (M.table s) t.row).isSome = true) : lookI (levOf (M.table s) most) t.row = if 0 < lev most (optD (M.least t)) then some (lev most (optD (M.least t))) else none := by
  rw [look_lev most (table_tab hM hS).nd, table_at hM hS ht h]
  rfl
theorem levels_true (hM : M.Ok) (hS : s.Ok M) {most : Int} (m0 : 0 ≤ most) : ((levOf (M.table s) most).all fun p => !levelPos (levOf (M.table s) most) p.1 || levelOk M (levOf (M.table s) most) (ofRow p.1)) = true := by
  refine List.all_eq_true.mpr fun p hp => ?_
  obtain ⟨d, hd, ev, pos⟩ := lev_key hp
  obtain ⟨ok, er, inn, ed⟩ := key_in hM hS hd
  obtain ⟨t, et⟩ : ∃ t, t = ofRow p.1 := ⟨_, rfl⟩
  rw [← et] at ok er inn ed ⊢
  let ls := levOf (M.table s) most
  have hl : lev most (optD (M.least t)) = p.2 := by rw [← ed]; exact ev
  have look : lookI ls t.row = some p.2 := by
    show lookI (levOf (M.table s) most) t.row = _
    rw [lev_at hM hS most ok inn, hl, if_pos pos]
  have goal : levelOk M ls t = true := by
    unfold levelOk
    simp only [look, Option.getD_some]
    have dn : M.done t = false := by
      cases q : M.done t with
      | false => rfl
      | true =>
        rw [least_done hM ok q, lev_optD] at hl
        have hl : (if (0 : Int) < most then (0 : Int) else most) = p.2 := hl
        split at hl <;> omega
    have none_cheaper : (M.mv t).any (cheaper M ls t p.2) = false := by
      cases q : (M.mv t).any (cheaper M ls t p.2) with
      | false => rfl
      | true =>
        exfalso
        obtain ⟨m, hm, hc⟩ := List.any_eq_true.mp q
        unfold cheaper at hc
        obtain ⟨h1, h2⟩ := Bool.and_eq_true_iff.mp hc
        have h2 := of_decide_eq_true h2
        have h1 : (M.endsS t m.1 m.2).any Option.isNone = false := by simpa using h1
        obtain ⟨zs, ez⟩ := all_some h1
        have fee0 := fee_nn hM ok hm
        rw [ez] at h2
        obtain ⟨-, t2⟩ := top_get (ls := ls) zs
        have top0 : 0 ≤ top ls (zs.map some) := t2 0 List.mem_cons_self
        have inE : ∀ z ∈ zs, some z ∈ M.endsS t m.1 m.2 := fun z hz => by rw [ez]; exact List.mem_map_of_mem hz
        have topz : ∀ z ∈ zs, lev most (optD (M.least z)) ≤ top ls (zs.map some) := fun z hz => by
          have hz' := ends_ok hM ok hm (inE z hz)
          have inz := (table_full hM hS).next t ok inn m hm z (inE z hz)
          have a := t2 _ (List.mem_cons_of_mem _ (List.mem_map_of_mem hz))
          have b : lookI ls z.row = _ := lev_at hM hS most hz' inz
          rw [b] at a
          by_cases c : 0 < lev most (optD (M.least z))
          · rw [if_pos c] at a
            exact a
          · omega
        have lp := lev_le most (optD (M.least t))
        rw [hl] at lp
        by_cases some_none : ∃ z ∈ zs, M.least z = none
        · obtain ⟨z, hz, e⟩ := some_none
          have a := topz z hz
          rw [e, lev_optD] at a
          have a : most ≤ top ls (zs.map some) := a
          omega
        · have each : ∀ z ∈ zs, ∃ x, M.least z = some x := fun z hz => by
            cases e : M.least z with
            | some x => exact ⟨x, rfl⟩
            | none => exact absurd ⟨z, hz, e⟩ some_none
          have eL : (M.endsS t m.1 m.2).map (fun e => e.bind M.least) = zs.map M.least := by
            rw [ez, List.map_map]
            rfl
          have zne : zs.map M.least ≠ [] := fun z => ends_ne ok m.1 m.2 (by rw [ez, List.map_eq_nil_iff.mp z]; rfl)
          obtain ⟨w, hw⟩ := worst_some zne fun o ho => by
            obtain ⟨z, hz, rfl⟩ := List.mem_map.mp ho
            exact each z hz
          obtain ⟨w1, -⟩ := worst_mem hw
          obtain ⟨z0, hz0, e0⟩ := List.mem_map.mp w1
          obtain ⟨h, eh, le⟩ := least_le hM ok hm (eL ▸ hw)
          have a := topz z0 hz0
          rw [e0, lev_optD] at a
          have a : (if w < most then w else most) ≤ top ls (zs.map some) := a
          rw [eh, lev_optD] at hl
          have hl : (if h < most then h else most) = p.2 := hl
          split at a <;> split at hl <;> omega
    rw [dn, none_cheaper]
    rfl
  rw [show levelOk M (levOf (M.table s) most) t = true from goal, Bool.or_true]
/-- sure's Sure is shown -/
theorem sure_true (hM : M.Ok) (hS : s.Ok M) {v : Int} (e : M.cost s = some v) : sureShows M s v (hsOf (M.table s)) (levOf (M.table s) v) = true := by
  have el : M.least s = some v := by rw [← cost_least hM hS]; exact e
  have v0 := least_nn hM hS el
  have inn : (getI (M.table s) s.row).isSome = true := by rw [table_has hM]; rfl
  have lh : lookI (hsOf (M.table s)) s.row = some v := by
    rw [hs_at hM hS hS inn]
    exact el
  unfold sureShows
  rw [lh]
  dsimp only
  rw [decide_eq_false (by omega : ¬ v < v), heights_true hM hS, levels_true hM hS v0]
  have ll : lookI (levOf (M.table s) v) s.row = if 0 < v then some v else none := by
    rw [lev_at hM hS v hS inn, el, lev_optD]
    show (if 0 < (if v < v then v else v) then some (if v < v then v else v) else none) = _
    rw [if_neg (by omega : ¬ v < v)]
  rw [ll]
  by_cases p : 0 < v
  · rw [if_pos p, decide_eq_true p]
    simp
  · rw [if_neg p, decide_eq_false p]
    simp
theorem gone_key (hM : M.Ok) (hS : s.Ok M) {r : List Int} (h : r ∈ goneOf (M.table s)) : (ofRow r).Ok M ∧ r = (ofRow r).row ∧ (getI (M.table s) (ofRow r).row).isSome = true ∧ M.least (ofRow r) = none := by
  obtain ⟨p, hp, rfl⟩ := List.mem_map.mp h
  obtain ⟨h1, h2⟩ := List.mem_filter.mp hp
  obtain ⟨ok, er, inn, ed⟩ := key_in hM hS (r := p.1) (d := p.2) h1
  refine ⟨ok, er, inn, ?_⟩
  rw [ed] at h2
  cases q : M.least (ofRow p.1) with
  | none => rfl
  | some x => rw [q] at h2; cases h2
theorem gone_in (hM : M.Ok) (hS : s.Ok M) {t : StD} (ht : t.Ok M) (h : (getI (M.table s) t.row).isSome = true) (e : M.least t = none) : t.row ∈ goneOf (M.table s) := by
  have g := table_at hM hS ht h
  rw [e] at g
  obtain ⟨p, hp, e1, e2⟩ : ∃ p ∈ M.table s, p.1 = t.row ∧ p.2 = optD none := by
    have go : ∀ c : Costs, getI c t.row = some (optD none) → ∃ p ∈ c, p.1 = t.row ∧ p.2 = optD none := fun c => by
      induction c with
      | nil => exact fun h => by cases h
      | cons q c ih =>
        intro h
        have h : (if q.1 = t.row then some q.2 else getI c t.row) = some (optD none) := h
        by_cases z : q.1 = t.row
        · rw [if_pos z] at h
          exact ⟨q, List.mem_cons_self, z, Option.some.inj h⟩
        · rw [if_neg z] at h
          obtain ⟨p, hp, a, b⟩ := ih h
          exact ⟨p, List.mem_cons_of_mem _ hp, a, b⟩
    exact go _ g
  refine List.mem_map.mpr ⟨p, List.mem_filter.mpr ⟨hp, by rw [e2]; rfl⟩, e1⟩
theorem gone_few (hM : M.Ok) (hS : s.Ok M) : (goneOf (M.table s)).length ≤ 525 := by
  have few := (table_tab hM hS).few
  have h := List.length_filter_le (fun p : List Int × D => p.2.isN) (M.table s)
  unfold goneOf
  rw [List.length_map]
  omega
/-- sure's Spoils is shown -/
theorem spoils_true (hM : M.Ok) (hS : s.Ok M) (e : M.cost s = none) : spoilsShows M s (goneOf (M.table s)) = true := by
  have el : M.least s = none := by rw [← cost_least hM hS]; exact e
  have inn : (getI (M.table s) s.row).isSome = true := by rw [table_has hM]; rfl
  unfold spoilsShows
  rw [decide_eq_true (gone_in hM hS hS inn el), Bool.true_and]
  unfold shut
  refine List.all_eq_true.mpr fun p hp => ?_
  have hr : p.1 ∈ goneOf (M.table s) := (held_keys (goneOf (M.table s)) [] p hp).elim id fun z => by simp at z
  obtain ⟨ok, er, ink, en⟩ := gone_key hM hS hr
  obtain ⟨t, et⟩ : ∃ t, t = ofRow p.1 := ⟨_, rfl⟩
  rw [← et] at ok er ink en ⊢
  unfold spoilOk
  have dn : M.done t = false := by
    cases q : M.done t with
    | false => rfl
    | true =>
      rw [least_done hM ok q] at en
      cases en
  have no : ((M.mv t).any fun m => !(M.endsS t m.1 m.2).any (caught fun r => (getI (heldOf (goneOf (M.table s))) r).isSome)) = false := by
    cases q : (M.mv t).any fun m => !(M.endsS t m.1 m.2).any (caught fun r => (getI (heldOf (goneOf (M.table s))) r).isSome) with
    | false => rfl
    | true =>
      exfalso
      obtain ⟨m, hm, hc⟩ := List.any_eq_true.mp q
      have free : (M.endsS t m.1 m.2).any (caught fun r => (getI (heldOf (goneOf (M.table s))) r).isSome) = false := by simpa using hc
      obtain ⟨w, hw⟩ := worst_some (vs := (M.endsS t m.1 m.2).map fun e => e.bind M.least) (fun z => ends_ne ok m.1 m.2 (List.map_eq_nil_iff.mp z)) fun o ho => by
        obtain ⟨x, hx, rfl⟩ := List.mem_map.mp ho
        have nc : caught (fun r => (getI (heldOf (goneOf (M.table s))) r).isSome) x = false := by
          cases z : caught (fun r => (getI (heldOf (goneOf (M.table s))) r).isSome) x with
          | false => rfl
          | true =>
            have : (M.endsS t m.1 m.2).any (caught fun r => (getI (heldOf (goneOf (M.table s))) r).isSome) = true := List.any_eq_true.mpr ⟨x, hx, z⟩
            rw [free] at this
            cases this
        cases x with
        | none => cases nc
        | some z =>
          have hz := ends_ok hM ok hm hx
          have inz := (table_full hM hS).next t ok ink m hm z hx
          cases e : M.least z with
          | some y => exact ⟨y, e⟩
          | none =>
            have : (getI (heldOf (goneOf (M.table s))) z.row).isSome = true := by
              rw [held_in]
              exact decide_eq_true (gone_in hM hS hz inz e)
            have nc : (getI (heldOf (goneOf (M.table s))) z.row).isSome = false := nc
            rw [this] at nc
            cases nc
      obtain ⟨h, eh, -⟩ := least_le hM ok hm hw
      rw [en] at eh
      cases eh
  rw [dn, no]
  rfl
end
end K2
end
section
set_option Elab.async false
set_option linter.all false
set_option maxRecDepth 100000
set_option maxHeartbeats 4000000
namespace K2
open PySem PySem.Spec PyProof.Rows L2 DL
/-! ### walking a Spoils, == of answers -/
section
variable {P : Program} {w : World} {K : PySem.W.Frag} {mg : Str → Option Value} {base : Heap} {k : Nat}
theorem it_Spoils (T : Txt K mg) : FnOk P w K mg base CX0 1 T.a_Spoils___iter__ T.fd_Spoils___iter__ ["self"] (spItL K T.C_Spoils "states") := by
  refine T.F_Spoils___iter__.ok sc_Spoils___iter__ (fun vs H Q E h => ?_) (fun cdv A outer s H vs Q E hr h => ?_)
  · obtain ⟨a, dx, fs, l, zs, e, _⟩ := h
    rw [e]
    rfl
  · obtain ⟨a, dx, fs, l, zs, rfl, ea, hf, sq, q⟩ := h
    refine ⟨_, pss_one (ps_ret (pe_callB call_iterL (by rfl) T.n_iter (by decide +kernel) (pa_cons (pe_fld (pv 0) rfl) pa_nil))), ?_⟩
    exact ⟨.ref a, rfl, a, T.C_Spoils, dx, fs, .ref l, rfl, ea, T.T_Spoils.cl, T.na_Spoils_states, hf, l, zs, rfl, sq, q⟩
def R_sure_eq (CU : Addr) (ds : List D) (d : D) : Prop := ∃ (cost : Int) (hs hs' ls : List (List Int × Int)), ds = [sureD CU cost hs ls, sureD CU cost hs' ls] ∧ hs.length = hs'.length ∧ (hs'.map (·.1)).Nodup ∧ (ls.map (·.1)).Nodup ∧ (∀ p ∈ hs, p ∈ hs') ∧ d = .bl true
theorem ok_Sure___eq__ (T : Txt K mg) : FnOk P w K mg base CX0 2 T.a_Sure___eq__ T.fd_Sure___eq__ ["self", "other"] (spP K 2 (R_sure_eq T.C_Sure)) := by
  refine fnP T.F_Sure___eq__ sc_Sure___eq__ rfl (fun cdv A outer s H E hr => ?_)
  refine ⟨_, (pss_one (ps_ret (pe_and (pe_callB (callIsi K) (by rfl) T.n_isinstance (by decide +kernel) (pa_cons (pv 1) (pa_cons (pe_glob (v := .ref T.C_Sure) (by rfl) T.g_Sure rfl) pa_nil))) (pe_and (pe_cmpR op_eq (peFld K (pv 0)) (peFld K (pv 1)) (nomark _)) (pe_and (pe_cmpR (op_eqDT (DL.rm1 hr)) (peFld K (pv 0)) (peFld K (pv 1)) (nomark _)) (pe_one (pe_cmpR (op_eqDT (DL.rm1 hr)) (peFld K (pv 0)) (peFld K (pv 1)) (nomark _)))))))), ?_⟩
  rintro ds d ⟨cost, hs, hs', ls, rfl, hl, n1, n2, sub, rfl⟩ -
  let sl : Sl := [some (.dat (sureD T.C_Sure cost hs ls)), some (.dat (sureD T.C_Sure cost hs' ls))]
  have c0 : DT K (tFld K (tVar 0) "cost") sl [] (.dat (.int cost)) [] := dt_fld (dt_var rfl) T.T_Sure.cl T.na_Sure_cost rfl
  have c1 : DT K (tFld K (tVar 1) "cost") sl [] (.dat (.int cost)) [] := dt_fld (dt_var rfl) T.T_Sure.cl T.na_Sure_cost rfl
  have h0 : DT K (tFld K (tVar 0) "heights") sl [] (.dat (.dic (toD hs))) [] := dt_fld (dt_var rfl) T.T_Sure.cl T.na_Sure_heights rfl
  have h1 : DT K (tFld K (tVar 1) "heights") sl [] (.dat (.dic (toD hs'))) [] := dt_fld (dt_var rfl) T.T_Sure.cl T.na_Sure_heights rfl
  have l0 : DT K (tFld K (tVar 0) "levels") sl [] (.dat (.dic (toD ls))) [] := dt_fld (dt_var rfl) T.T_Sure.cl T.na_Sure_levels rfl
  have l1 : DT K (tFld K (tVar 1) "levels") sl [] (.dat (.dic (toD ls))) [] := dt_fld (dt_var rfl) T.T_Sure.cl T.na_Sure_levels rfl
  have e0 := dt_eqI c0 c1
  rw [decide_eq_true rfl] at e0
  have e1 := dt_eqDic h0 h1 .dat .dat
  rw [eqI_same hl n1 sub] at e1
  have e2 := dt_eqDic l0 l1 .dat .dat
  rw [eqI_same rfl n2 fun p hp => hp] at e2
  exact .rt (ds_ret (dt_andV_t (b := true) (dt_isiC (dt_var (i := 1) rfl) T.T_Sure) (dt_andV_t (b := true) e0 (dt_andV_t (b := true) e1 e2))))
def R_spoils_eq (CP : Addr) (ds : List D) (d : D) : Prop := ∃ rows : List (List Int), ds = [spoilsD CP rows, spoilsD CP rows] ∧ d = .bl true
theorem ok_Spoils___eq__ (T : Txt K mg) : FnOk P w K mg base CX0 2 T.a_Spoils___eq__ T.fd_Spoils___eq__ ["self", "other"] (spP K 2 (R_spoils_eq T.C_Spoils)) := by
  refine fnP T.F_Spoils___eq__ sc_Spoils___eq__ rfl (fun cdv A outer s H E hr => ?_)
  refine ⟨_, (pss_one (ps_ret (pe_and (pe_callB (callIsi K) (by rfl) T.n_isinstance (by decide +kernel) (pa_cons (pv 1) (pa_cons (pe_glob (v := .ref T.C_Spoils) (by rfl) T.g_Spoils rfl) pa_nil))) (pe_one (pe_cmpR (opEqD K hr.units) (peFld K (pv 0)) (peFld K (pv 1)) (nomark _)))))), ?_⟩
  rintro ds d ⟨rows, rfl, rfl⟩ -
  let sl : Sl := [some (.dat (spoilsD T.C_Spoils rows)), some (.dat (spoilsD T.C_Spoils rows))]
  have s0 : DT K (tFld K (tVar 0) "states") sl [] (.dat (.lst (rows.map rowD))) [] := dt_rls (dt_fld (dt_var rfl) T.T_Spoils.cl T.na_Spoils_states rfl)
  have s1 : DT K (tFld K (tVar 1) "states") sl [] (.dat (.lst (rows.map rowD))) [] := dt_rls (dt_fld (dt_var rfl) T.T_Spoils.cl T.na_Spoils_states rfl)
  have e := dt_eqD (n := 3) s0 s1 (flat_rows rows 1) (flat_rows rows 1)
  rw [eqv_self (flat_rows rows 1)] at e
  exact .rt (ds_ret (dt_andV_t (b := true) (dt_isiC (dt_var (i := 1) rfl) T.T_Spoils) e))
end
end K2
end
section
set_option Elab.async false
set_option linter.all false
set_option maxRecDepth 100000
set_option maxHeartbeats 4000000
namespace K2
open PySem PySem.Spec PyProof.Rows L2 DL
/-! ### the law's look at a Spoils -/
def Rws (M : MapD) (rows : List (List Int)) : Prop := ∀ r ∈ rows, (ofRow r).Ok M ∧ r = (ofRow r).row
theorem rws_row {M : MapD} {s : StD} (h : s.Ok M) : (ofRow s.row).Ok M ∧ s.row = (ofRow s.row).row := ⟨h, rfl⟩
section
variable {P : Program} {w : World} {K : PySem.W.Frag} {mg : Str → Option Value} {base : Heap} {k : Nat}
def R_spoils_right (C CP : Addr) (m : Mc) (ds : List D) (d : D) (m' : Mc) : Prop := ∃ ns y n M s rows, m = drM ns y n ∧ ds = [mapD C M, stD s, spoilsD CP rows] ∧ 0 ≤ y ∧ 0 ≤ n ∧ M.Ok ∧ s.Ok M ∧ Rws M rows ∧ rows.length ≤ 525 ∧ spoilsShows M s rows = true ∧ d = .bl true ∧ m' = drM ns y (stEnd ns y (n + 1))
theorem ok__law_spoils_right (T : Txt K mg) : FnOk P w K mg base CX0 11 T.a__law_spoils_right T.fd__law_spoils_right ["_law_draw_here", "_law_chart", "_law_state_here", "_law_found"] (spO K 4 (R_spoils_right T.C_Map T.C_Spoils)) := by
  refine fnO T.F__law_spoils_right sc__law_spoils_right rfl (fun cdv A outer s H E hr => ?_)
  refine ⟨_, (pss_cons (ps_if (pt_not (pt_val (pe_callB (callIsi K) (by rfl) T.n_isinstance (by decide +kernel) (pa_cons (pv 3) (pa_cons (pe_glob (v := .ref T.C_Spoils) (by rfl) T.g_Spoils rfl) pa_nil))))) (pss_one (ps_ret pe_bl)) pss_nil)
  (pss_cons (ps_if (pt_cmpR (opNeD K hr.units) (pe_callTy (call_listO ⟨T.M_Spoils___iter__, T.nl_Spoils, T.nh_Spoils⟩ rfl (it_Spoils T) T.b_Spoils___iter__ pass0 (hr.mono (by decide))) (by rfl) T.n_list (by decide +kernel) (pa_cons (pv 3) pa_nil)) (peFld K (pv 3)) (nomark _)) (pss_one (ps_ret pe_bl)) pss_nil)
  (pss_cons (ps_if (pt_not (pt_val (pe_call (ok__law_shut T) (hr.mono (by decide)) (by rfl) T.g__law_shut T.F__law_shut.kp T.b__law_shut .nil pass0 (pa_cons (pv 1) (pa_cons (pv 2) (pa_cons (peFld K (pv 3)) pa_nil)))))) (pss_one (ps_ret pe_bl)) pss_nil)
  (pss_cons (ps_set (i := 4) sc__law_spoils_right.nd rfl (.inr rfl) (pe_call (ok__law_pick T) (hr.mono (by decide)) (by rfl) T.g__law_pick T.F__law_pick.kp T.b__law_pick .nil pass0 (pa_cons (pv 0) (pa_cons (peFld K (pv 3)) pa_nil))))
  (pss_cons (ps_setLc (i := 5) (own := [("_law_one", 8)]) rfl sc__law_spoils_right.nd rfl rfl (sw_true rfl rfl rfl (by decide +kernel)) (piList K (peFld K (pv 3))) (blkOk_by (own := [("_law_one", 8)]) (N := ["_law_draw_here", "_law_chart", "_law_state_here", "_law_found", "_law_gone", "_law_fewer", "_law_more", "_law_some", "_law_one"]) (sc := defScope s__law_spoils_right) (by decide +kernel)) (fun _ _ _ _ _ => (pg_name (i := 8) sc__law_spoils_right.nd rfl (.inl rfl))) (fun _ _ _ _ _ => (pts_one (pt_cmpR (opNeD K hr.units) (pv 8) (pv 4) (nomark _)))) (fun _ _ _ _ _ => (pv 8)))
  (pss_cons (ps_set (i := 6) sc__law_spoils_right.nd rfl (.inl rfl) (pe_op op_cat (peFld K (pv 3)) (pe_lst (pa_cons (pe_call (ok__law_state T) (hr.mono (by decide)) (by rfl) T.g__law_state T.F__law_state.kp T.b__law_state .nil pass0 (pa_cons (pv 0) (pa_cons (pv 1) pa_nil))) pa_nil))))
  (pss_cons (ps_for PassesOwn.never rfl (piTup K (pe_tup (pa_cons (pv 5) (pa_cons (pe_revL (peFld K (pv 3))) (pa_cons (pe_op op_cat (peFld K (pv 3)) (pe_lst (pa_cons (pv 4) pa_nil))) (pa_cons (pv 6) (pa_cons (pe_lst pa_nil) pa_nil))))))) (pg_name (i := 7) sc__law_spoils_right.nd rfl (.inl rfl)) (pss_one (ps_if (pt_cmpR op_ne (pe_meth (pe_make T.mk_Spoils (ok_Spoils___init__ T) (hr.mono (by decide)) (by rfl) T.g_Spoils T.b_Spoils___init__ .nil pass0 (pa_cons (pv 7) pa_nil)) T.T_Spoils.cl T.M_Spoils_shows (ok_Spoils_shows T) (hr.mono (by decide)) T.b_Spoils_shows .nil pass0 (pa_cons (pv 1) (pa_cons (pv 2) pa_nil))) (pe_call (ok__law_shut T) (hr.mono (by decide)) (by rfl) T.g__law_shut T.F__law_shut.kp T.b__law_shut .nil pass0 (pa_cons (pv 1) (pa_cons (pv 2) (pa_cons (pv 7) pa_nil)))) (nomark _)) (pss_one (ps_ret pe_bl)) pss_nil)))
  (pss_one (ps_ret (pe_cmpR (opEqOwn K (ok_Spoils___eq__ T) T.M_Spoils___eq__ T.b_Spoils___eq__ (hr.mono (by decide))) (pv 3) (pe_make T.mk_Spoils (ok_Spoils___init__ T) (hr.mono (by decide)) (by rfl) T.g_Spoils T.b_Spoils___init__ .nil pass0 (pa_cons (peFld K (pv 3)) pa_nil)) (nomark _))))))))))), ?_⟩
  rintro m ds d m' ⟨ns, y, n, M, s, rows, rfl, rfl, hy, hn, hM, hS, hR, few, ok, rfl, rfl⟩ -
  have ne : rows ≠ [] := fun z => by
    subst z
    exact absurd ok (by unfold spoilsShows; simp)
  let sl : Sl := [some (.own 0), some (.dat (mapD T.C_Map M)), some (.dat (stD s)), some (.dat (spoilsD T.C_Spoils rows)), none, none, none, none, none]
  have fs : ∀ (ss : Sl) (mem : List Mc), ss[3]? = some (some (.dat (spoilsD T.C_Spoils rows))) → DT K (tFld K (tVar 3) "states") ss mem (.dat (.rls (rows.map rowD))) mem := fun ss mem h => dt_fld (dt_var h) T.T_Spoils.cl T.na_Spoils_states rfl
  have pos : 0 < rows.length := List.length_pos_iff.mpr ne
  obtain ⟨k0, k1⟩ := dv_bd (ns := ns) (y := y) (n := n) (show (0 : Int) < ((rows.map rowD).length : Nat) by rw [List.length_map]; omega)
  have jl : (dv ns y n (rows.map rowD).length).toNat < rows.length := by rw [List.length_map] at k0 k1 ⊢; omega
  let gone : List Int := rows.getD (dv ns y n (rows.map rowD).length).toNat []
  have hg : gone ∈ rows := getD_in jl []
  let st := stOf ns y (n + 1) M
  have hst : st.Ok M := stOf_ok hM
  let fewer := rows.filter fun r => !decide (r = gone)
  refine .rt ?_
  -- it is a Spoils
  refine ds_seq (ss1 := sl) (m1 := [drM ns y n]) (ds_if_f (db_not (b := true) (db_test (dt_isiC (dt_var (i := 3) rfl) T.T_Spoils))) ds_next) ?_
  -- walked
  refine ds_seq (ss1 := sl) (m1 := [drM ns y n]) (ds_if_f (db_test (dt_neD_same (n := 3) (dt_rls (dt_listO (dt_var (i := 3) rfl) rfl)) (dt_rls (fs _ _ rfl)) (flat_rows rows 1))) ds_next) ?_
  -- shut
  refine ds_seq (ss1 := sl) (m1 := [drM ns y n]) (ds_if_f (db_not (b := true) (db_test (dt_call (da_cons (dt_var (i := 1) rfl) (da_cons (dt_var (i := 2) rfl) (da_cons (dt_rls (fs _ _ rfl)) da_nil))) ⟨M, s, rows, rfl, hM, hS, hR, by omega, by rw [ok]⟩))) ds_next) ?_
  -- one is picked
  let s4 : Sl := [some (.own 0), some (.dat (mapD T.C_Map M)), some (.dat (stD s)), some (.dat (spoilsD T.C_Spoils rows)), some (.dat (rowD gone)), none, none, none, none]
  refine ds_seq (ss1 := s4) (m1 := [drM ns y (n + 1)]) (ds_set (i := 4) ?_) ?_
  · have hp : DT K _ sl [drM ns y n] _ _ := dt_pick (K := K) (ns := ns) (y := y) (n := n) (o := 0) (E := E0) (to := tVar 0) (mem := [drM ns y n]) (ss := sl) (dt_var rfl) (dt_rls (fs sl _ rfl)) rfl (by rw [Ne, List.map_eq_nil_iff]; exact ne) hy hn
    rw [nthD_map rowD jl []] at hp
    exact hp
  -- fewer
  let s5 : Sl := [some (.own 0), some (.dat (mapD T.C_Map M)), some (.dat (stD s)), some (.dat (spoilsD T.C_Spoils rows)), some (.dat (rowD gone)), some (.dat (.lst (fewer.map rowD))), none, none, none]
  refine ds_seq (ss1 := s5) (m1 := [drM ns y (n + 1)]) (ds_set (i := 5) (dt_lcFL rowD [] rows (j := 8) (dt_rls (fs _ _ rfl)) (by omega) (fun r => !decide (r = gone)) rowD fun r hr => ⟨?_, fun _ => dt_var (i := 8) rfl⟩)) ?_
  · have e := dt_neD (K := K) (n := 3) (ss := (s4.set 8 none).set 8 (some (.dat (rowD r)))) (mem := [drM ns y (n + 1)]) (dt_var (i := 8) rfl) (dt_var (i := 4) (r := .dat (rowD gone)) rfl) (flat_row r 2) (flat_row gone 2)
    rw [eqv_row] at e
    exact db_test e
  -- more
  let s6 : Sl := [some (.own 0), some (.dat (mapD T.C_Map M)), some (.dat (stD s)), some (.dat (spoilsD T.C_Spoils rows)), some (.dat (rowD gone)), some (.dat (.lst (fewer.map rowD))), some (.tl (rows.map rowD ++ [stD st])), none, none]
  refine ds_seq (ss1 := s6) (m1 := [drM ns y (stEnd ns y (n + 1))]) (ds_set (i := 6) (dt_catR (fs _ _ rfl) (dt_lstT (da_cons (dt_callO (p := 0) (m := drM ns y (n + 1)) (dao_cons (dt_var rfl) (da_cons (dt_var rfl) da_nil)) rfl (fun z => by cases z) ⟨ns, y, n + 1, M, rfl, rfl, hM, hy, by omega, rfl, rfl⟩) da_nil)) (by rw [List.length_map]; simp; omega))) ?_
  -- the lists
  let L : List (List (List Int)) := [fewer, rows.reverse, rows ++ [gone], rows ++ [st.row], []]
  have hL : ∀ l ∈ L, Rws M l ∧ l.length ≤ 1000 := fun l hl => by
    have f1 : fewer.length ≤ rows.length := List.length_filter_le _ _
    rcases List.mem_cons.mp hl with e | hl
    · rw [e]
      exact ⟨fun r h => hR r (List.mem_filter.mp h).1, by omega⟩
    rcases List.mem_cons.mp hl with e | hl
    · rw [e]
      exact ⟨fun r h => hR r (List.mem_reverse.mp h), by rw [List.length_reverse]; omega⟩
    rcases List.mem_cons.mp hl with e | hl
    · rw [e]
      refine ⟨fun r h => ?_, by rw [List.length_append, List.length_singleton]; omega⟩
      rcases List.mem_append.mp h with z | z
      · exact hR r z
      · rw [List.mem_singleton.mp z]
        exact hR _ hg
    rcases List.mem_cons.mp hl with e | hl
    · rw [e]
      refine ⟨fun r h => ?_, by rw [List.length_append, List.length_singleton]; omega⟩
      rcases List.mem_append.mp h with z | z
      · exact hR r z
      · rw [List.mem_singleton.mp z]
        exact rws_row hst
    · rw [List.mem_singleton.mp hl]
      exact ⟨(fun r h => by cases h), Nat.zero_le _⟩
  let g : List (List Int) → D := fun l => .lst (l.map rowD)
  have eL : [D.lst (fewer.map rowD), .lst (rows.map rowD).reverse, .lst (rows.map rowD ++ [rowD gone]), .lst (rows.map rowD ++ [stD st]), .lst []] = L.map g := by
    show _ = [g fewer, g rows.reverse, g (rows ++ [gone]), g (rows ++ [st.row]), g []]
    have e1 : g rows.reverse = .lst (rows.map rowD).reverse := congrArg D.lst (List.map_reverse (f := rowD) (l := rows))
    have e2 : ∀ r, g (rows ++ [r]) = .lst (rows.map rowD ++ [rowD r]) := fun r => congrArg D.lst List.map_append
    rw [e1, e2, e2]
    rfl
  refine ds_seq (ss1 := s6) (m1 := [drM ns y (stEnd ns y (n + 1))]) (ds_forW (n := (L.map g).length) [7, 8] (fun _ => s6) (fun _ => [drM ns y (stEnd ns y (n + 1))]) rfl (it := nthD (L.map g)) (by
    refine di_tup ?_
    rw [← eL]
    exact dt_tup (da_cons (dt_var (i := 5) rfl) (da_cons (dt_rev (dt_rls (fs _ _ rfl))) (da_cons (dt_rls (dt_tlR (dt_catR (fs _ _ rfl) (dt_lstT (da_cons (dt_var (i := 4) rfl) da_nil)) (by rw [List.length_map]; simp; omega)))) (da_cons (dt_rls (dt_tlR (dt_var (i := 6) rfl))) (da_cons (dt_lst da_nil) da_nil)))))) (fun _ => rfl) (fun _ => rfl) fun i hi => ?_) ?_
  · have hi' : i < L.length := by rw [List.length_map] at hi; exact hi
    obtain ⟨lr, ll⟩ := hL _ (getD_in hi' [])
    rw [nthD_map g hi' []]
    generalize L.getD i [] = l at lr ll
    let s7 : Sl := s6.set 7 (some (.dat (.lst (l.map rowD))))
    refine ⟨s7, [], ds_if_f (m1 := [drM ns y (stEnd ns y (n + 1))]) (db_test ?_) ds_next, rfl⟩
    exact dt_neB_same (a := spoilsShows M s l) (dt_meth (dt_make (da_cons (dt_var (i := 7) rfl) da_nil) ⟨l, rfl, rfl, rfl, rfl⟩) rfl (da_cons (dt_var (i := 1) rfl) (da_cons (dt_var (i := 2) rfl) da_nil)) ⟨M, s, l, rfl, hM, hS, lr, ll, rfl⟩)
      (dt_call (da_cons (dt_var (i := 1) rfl) (da_cons (dt_var (i := 2) rfl) (da_cons (dt_var (i := 7) rfl) da_nil))) ⟨M, s, l, rfl, hM, hS, lr, ll, rfl⟩)
  exact ds_ret (dt_eqOwn (dt_var (i := 3) rfl) (dt_make (da_cons (dt_rls (fs _ _ rfl)) da_nil) ⟨rows, rfl, rfl, rfl, rfl⟩) ⟨rows, rfl, rfl⟩)
end
end K2
end
section
set_option Elab.async false
set_option linter.all false
set_option maxRecDepth 100000
set_option maxHeartbeats 4000000
namespace K2
open PySem PySem.Spec PyProof.Rows L2 DL
/-! ### the law's look at a Sure -/
theorem toD_get {m : List (List Int × Int)} {k : List Int} : (getI (toD m) k).isSome = (lookI m k).isSome := by
  rw [getI_toD]
  cases lookI m k <;> rfl
/-- d[k] = v, by ints -/
def putN (m : List (List Int × Int)) (k : List Int) (v : Int) : List (List Int × Int) := if (lookI m k).isSome = true then m.map (fun p => if p.1 = k then (p.1, v) else p) else m ++ [(k, v)]
theorem put_toD (m : List (List Int × Int)) (k : List Int) (v : Int) : putI (toD m) k (.int v) = toD (putN m k v) := by
  unfold putI putN
  rw [toD_get]
  by_cases h : (lookI m k).isSome = true
  · rw [if_pos h, if_pos h]
    unfold toD
    rw [List.map_map, List.map_map]
    refine List.map_congr_left fun p _ => ?_
    show (if p.1 = k then (p.1, D.int v) else (p.1, D.int p.2)) = ((if p.1 = k then (p.1, v) else p).1, D.int (if p.1 = k then (p.1, v) else p).2)
    split <;> rfl
  · rw [if_neg h, if_neg h]
    unfold toD
    rw [List.map_append]
    rfl
theorem look_none : ∀ {m : List (List Int × Int)} {k : List Int}, lookI m k = none → k ∉ m.map (·.1)
  | [], k, _, h => by cases h
  | p :: m, k, e, h => by
    have e' : (if p.1 = k then some p.2 else lookI m k) = none := e
    by_cases z : p.1 = k
    · rw [if_pos z] at e'
      cases e'
    · rw [if_neg z] at e'
      rcases List.mem_cons.mp h with y | y
      · exact z y.symm
      · exact look_none e' y
theorem Dct.put {M : MapD} {hs : List (List Int × Int)} (h : Dct M hs) {s : StD} (hS : s.Ok M) (v : Int) : Dct M (putN hs s.row v) := by
  unfold putN
  by_cases e : (lookI hs s.row).isSome = true
  · rw [if_pos e]
    refine ⟨fun p hp => ?_, ?_⟩
    · obtain ⟨q, hq, rfl⟩ := List.mem_map.mp hp
      have z := h.keyed q hq
      by_cases y : q.1 = s.row
      · rw [if_pos y]
        exact z
      · rw [if_neg y]
        exact z
    · have ek : (hs.map fun p => if p.1 = s.row then (p.1, v) else p).map (·.1) = hs.map (·.1) := by
        rw [List.map_map]
        refine List.map_congr_left fun p _ => ?_
        show (if p.1 = s.row then (p.1, v) else p).1 = p.1
        split <;> rfl
      rw [ek]
      exact h.nd
  · rw [if_neg e]
    have no : lookI hs s.row = none := by
      cases q : lookI hs s.row with
      | none => rfl
      | some x => exact absurd (by rw [q]; rfl) e
    refine ⟨fun p hp => ?_, ?_⟩
    · rcases List.mem_append.mp hp with z | z
      · exact h.keyed p z
      · rw [List.mem_singleton.mp z]
        exact ⟨hS, rfl⟩
    · rw [List.map_append]
      refine List.nodup_append.mpr ⟨h.nd, by simp, fun a ha b hb e => ?_⟩
      rw [List.mem_singleton.mp hb] at e
      subst e
      exact look_none no ha
def dropN (m : List (List Int × Int)) (k : List Int) : List (List Int × Int) := m.filter fun p => decide (p.1 ≠ k)
theorem drop_toD (m : List (List Int × Int)) (k : List Int) : dropI (toD m) k = toD (dropN m k) := by
  unfold dropI dropN toD
  rw [List.filter_map]
  rfl
theorem Dct.drop {M : MapD} {hs : List (List Int × Int)} (h : Dct M hs) (k : List Int) : Dct M (dropN hs k) :=
  ⟨fun p hp => h.keyed p ((List.mem_filter.mp hp).1), (List.Sublist.map (fun p : List Int × Int => p.1) (List.filter_sublist (p := fun p : List Int × Int => decide (p.1 ≠ k)) (l := hs))).nodup h.nd⟩
theorem Dct.nil {M : MapD} : Dct M [] := ⟨(fun p h => by cases h), List.nodup_nil⟩
theorem Dct.rev {M : MapD} {hs : List (List Int × Int)} (h : Dct M hs) : Dct M hs.reverse := by
  refine ⟨fun p hp => h.keyed p (List.mem_reverse.mp hp), ?_⟩
  rw [List.map_reverse]
  exact List.pairwise_reverse.mpr (List.Pairwise.imp (fun h => Ne.symm h) h.nd)
theorem putAll_nd : ∀ (m acc : List (List Int × D)), ((acc ++ m).map (·.1)).Nodup → putAllI acc m = acc ++ m
  | [], acc, _ => by rw [List.append_nil]; rfl
  | p :: m, acc, h => by
    have e : acc ++ p :: m = (acc ++ [p]) ++ m := by simp
    have fresh : p.1 ∉ acc.map (·.1) := fun z => by
      rw [List.map_append, List.map_cons] at h
      exact (List.nodup_append.mp h).2.2 _ z _ List.mem_cons_self rfl
    show putAllI (putI acc p.1 p.2) m = _
    rw [putI_fresh fresh, e]
    exact putAll_nd m (acc ++ [p]) (by rw [← e]; exact h)
theorem turned_toD {M : MapD} {hs : List (List Int × Int)} (h : Dct M hs) : putAllI [] (toD hs).reverse = toD hs.reverse := by
  have e : (toD hs).reverse = toD hs.reverse := by
    unfold toD
    rw [List.map_reverse]
  rw [e, putAll_nd _ [] (by rw [List.nil_append, toD_keys]; exact h.rev.nd)]
  rfl
theorem Dct.apart {M : MapD} (hM : M.Ok) {hs : List (List Int × Int)} (h : Dct M hs) : ((toD hs).map fun p => rowHash p.1).Nodup :=
  apart_of (by rw [toD_keys]; exact h.nd) fun p hp => by
    obtain ⟨q, hq, rfl⟩ := List.mem_map.mp hp
    exact keyed_in hM h.keyed q hq
/-- a row of the law's table -/
def rowC (cost : Int) (hs ls : List (List Int × Int)) : D := .tup [.int cost, .dic (toD hs), .dic (toD ls)]
def RowOk (M : MapD) (d : D) : Prop := ∃ cost hs ls, d = rowC cost hs ls ∧ Dct M hs ∧ Dct M ls
section
variable (ns : List Int) (y : Int) (M : MapD) (cost : Int) (hs ls : List (List Int × Int))
def tPick (c : Int) : Nat := (dv ns y c hs.length).toNat
def tSpot (c : Int) : List Int := (hs.getD (tPick ns y hs c) ([], 0)).1
def tVal (c : Int) : Int := (hs.getD (tPick ns y hs c) ([], 0)).2
def tBent (c : Int) : List (List Int × Int) := putN hs (tSpot ns y hs c) (tVal ns y hs c + dv ns y (c + 1) 5 - 2)
def tLess (c : Int) : List (List Int × Int) := dropN hs (tSpot ns y hs c)
def tMore (c : Int) : List (List Int × Int) := putN ls (stOf ns y (c + 1 + 1) M).row ((lookI ls (stOf ns y (c + 1 + 1) M).row).getD 0 + dv ns y (stEnd ns y (c + 1 + 1)) 5 - 2)
def tWild (c : Int) : List (List Int × Int) := putN hs (stOf ns y (stEnd ns y (c + 1 + 1) + 1 + 1) M).row (dv ns y (stEnd ns y (c + 1 + 1) + 1) 20)
def tEnd (c : Int) : Int := stEnd ns y (stEnd ns y (c + 1 + 1) + 1 + 1)
def tEnds (c : Int) : Nat → Int
  | 0 => c
  | i + 1 => tEnd ns y (tEnds c i)
def rows0 : List D := [rowC (cost + 1) hs ls, rowC (cost - 1) hs ls, rowC cost hs [], rowC cost [] ls, rowC cost hs.reverse ls]
def rowsN (c : Int) : Nat → List D
  | 0 => rows0 cost hs ls
  | i + 1 => (rowsN c i ++ [rowC cost (tBent ns y hs (tEnds ns y c i)) ls, rowC cost (tLess ns y hs (tEnds ns y c i)) ls, rowC cost hs (tMore ns y M ls (tEnds ns y c i))]) ++ [rowC cost (tWild ns y M hs (tEnds ns y c i)) ls]
end
theorem tEnds_nn {ns : List Int} {y c : Int} (h : 0 ≤ c) : ∀ i, 0 ≤ tEnds ns y c i
  | 0 => h
  | i + 1 => by
    have z := tEnds_nn (ns := ns) (y := y) h i
    have a := stEnd_nn (ns := ns) (y := y) (n := tEnds ns y c i + 1 + 1) (by omega)
    exact stEnd_nn (by omega)
theorem rowsN_len (ns : List Int) (y : Int) (M : MapD) (cost : Int) (hs ls : List (List Int × Int)) (c : Int) : ∀ i, (rowsN ns y M cost hs ls c i).length = 5 + 4 * i
  | 0 => rfl
  | i + 1 => by
    show ((rowsN ns y M cost hs ls c i ++ _) ++ _).length = _
    rw [List.length_append, List.length_append, rowsN_len ns y M cost hs ls c i]
    simp
    omega
theorem spot_in {ns : List Int} {y c : Int} {hs : List (List Int × Int)} (ne : hs ≠ []) : hs.getD (tPick ns y hs c) ([], 0) ∈ hs := by
  have pos : 0 < hs.length := List.length_pos_iff.mpr ne
  obtain ⟨k0, k1⟩ := dv_bd (ns := ns) (y := y) (n := c) (show (0 : Int) < (hs.length : Nat) by omega)
  exact getD_in (by unfold tPick; omega) _
theorem rows_ok {ns : List Int} {y : Int} {M : MapD} (hM : M.Ok) {cost : Int} {hs ls : List (List Int × Int)} (dh : Dct M hs) (dl : Dct M ls) (ne : hs ≠ []) (c : Int) : ∀ i, ∀ d ∈ rowsN ns y M cost hs ls c i, RowOk M d
  | 0, d, h => by
    rcases List.mem_cons.mp h with e | h
    · exact ⟨_, _, _, e, dh, dl⟩
    rcases List.mem_cons.mp h with e | h
    · exact ⟨_, _, _, e, dh, dl⟩
    rcases List.mem_cons.mp h with e | h
    · exact ⟨_, _, _, e, dh, .nil⟩
    rcases List.mem_cons.mp h with e | h
    · exact ⟨_, _, _, e, .nil, dl⟩
    · exact ⟨_, _, _, List.mem_singleton.mp h, dh.rev, dl⟩
  | i + 1, d, h => by
    rcases List.mem_append.mp h with h | h
    · rcases List.mem_append.mp h with h | h
      · exact rows_ok hM dh dl ne c i d h
      · rcases List.mem_cons.mp h with e | h
        · refine ⟨_, _, _, e, ?_, dl⟩
          have z := dh.keyed _ (spot_in (ns := ns) (y := y) (c := tEnds ns y c i) ne)
          unfold tBent tSpot
          rw [z.2]
          exact dh.put z.1 _
        rcases List.mem_cons.mp h with e | h
        · exact ⟨_, _, _, e, dh.drop _, dl⟩
        · exact ⟨_, _, _, List.mem_singleton.mp h, dh, dl.put (stOf_ok hM) _⟩
    · exact ⟨_, _, _, List.mem_singleton.mp h, dh.put (stOf_ok hM) _, dl⟩
end K2
end
section
set_option Elab.async false
set_option linter.all false
set_option maxRecDepth 100000
set_option maxHeartbeats 4000000
namespace K2
open PySem PySem.Spec PyProof.Rows L2 DL
section
variable {P : Program} {w : World} {K : PySem.W.Frag} {mg : Str → Option Value} {base : Heap} {k : Nat}
def R_sure_right (C CU : Addr) (m : Mc) (ds : List D) (d : D) (m' : Mc) : Prop := ∃ ns y n M s cost hs ls, m = drM ns y n ∧ ds = [mapD C M, stD s, sureD CU cost hs ls] ∧ 0 ≤ y ∧ 0 ≤ n ∧ M.Ok ∧ s.Ok M ∧ Dct M hs ∧ Dct M ls ∧ sureShows M s cost hs ls = true ∧ d = .bl true ∧ m' = drM ns y (tEnds ns y n 2)
/-- one turn of the table's making -/
theorem sure_turn {ns : List Int} {y c : Int} {M : MapD} {hs ls : List (List Int × Int)} (dh : Dct M hs) (ne : hs ≠ []) : getI (toD hs) (tSpot ns y hs c) = some (.int (tVal ns y hs c)) := by
  rw [getI_toD, show lookI hs (tSpot ns y hs c) = some (tVal ns y hs c) from lookI_in dh.nd _ (spot_in ne)]
  rfl
theorem ok__law_sure_right (T : Txt K mg) : FnOk P w K mg base CX0 11 T.a__law_sure_right T.fd__law_sure_right ["_law_draw_here", "_law_chart", "_law_state_here", "_law_found"] (spO K 4 (R_sure_right T.C_Map T.C_Sure)) := by
  refine fnO T.F__law_sure_right sc__law_sure_right rfl (fun cdv A outer s H E hr => ?_)
  refine ⟨_, (pss_cons (ps_if (pt_not (pt_val (pe_callB (callIsi K) (by rfl) T.n_isinstance (by decide +kernel) (pa_cons (pv 3) (pa_cons (pe_glob (v := .ref T.C_Sure) (by rfl) T.g_Sure rfl) pa_nil))))) (pss_one (ps_ret pe_bl)) pss_nil)
  (pss_cons (ps_par3 (i := 4) (j := 5) (l := 6) rfl sc__law_sure_right.nd rfl rfl rfl (by decide) (by decide) (by decide) rfl rfl rfl (pa_cons (peFld K (pv 3)) (pa_cons (peFld K (pv 3)) (pa_cons (peFld K (pv 3)) pa_nil))) (by rfl))
  (pss_cons (ps_if (pt_not (pt_val (pe_call (ok__law_right T) (hr.mono (by decide)) (by rfl) T.g__law_right T.F__law_right.kp T.b__law_right .nil pass0 (pa_cons (pv 1) (pa_cons (pv 2) (pa_cons (pe_tup (pa_cons (pv 4) (pa_cons (pv 5) (pa_cons (pv 6) pa_nil)))) pa_nil)))))) (pss_one (ps_ret pe_bl)) pss_nil)
  (pss_cons (ps_set (i := 7) sc__law_sure_right.nd rfl (.inl rfl) (pe_lst (pa_cons (pe_tup (pa_cons (pe_op op_add (pv 4) pe_int) (pa_cons (pv 5) (pa_cons (pv 6) pa_nil)))) (pa_cons (pe_tup (pa_cons (pe_op op_sub (pv 4) pe_int) (pa_cons (pv 5) (pa_cons (pv 6) pa_nil)))) pa_nil))))
  (pss_cons (ps_set (i := 7) sc__law_sure_right.nd rfl (.inl rfl) (pe_op op_cat (pv 7) (pe_lst (pa_cons (pe_tup (pa_cons (pv 4) (pa_cons (pv 5) (pa_cons pe_dnewT pa_nil)))) (pa_cons (pe_tup (pa_cons (pv 4) (pa_cons pe_dnewT (pa_cons (pv 6) pa_nil)))) pa_nil)))))
  (pss_cons (ps_set (i := 8) sc__law_sure_right.nd rfl (.inl rfl) (pe_callTy (callDictPr K rfl (DL.rm2 hr)) (by rfl) T.n_dict (by decide +kernel) (pa_cons (pe_revL (pe_callTy (call_listIt rfl) (by rfl) T.n_list (by decide +kernel) (pa_cons (pe_itemsR (pv 5)) pa_nil))) pa_nil)))
  (pss_cons (ps_expr (pe_bm PySem.F.plainAttrs_list PySem.F.slot_list_append PySem.F.type_list_append mt_append (pv 7) (pa_cons (pe_tup (pa_cons (pv 4) (pa_cons (pv 8) (pa_cons (pv 6) pa_nil)))) pa_nil)))
  (pss_cons (ps_for PassesOwn.never rfl (pi_range1 (by rfl) T.n_range (pa_cons pe_int pa_nil)) (pg_name (i := 9) sc__law_sure_right.nd rfl (.inl rfl)) (pss_cons (ps_par (i := 10) (j := 11) (by rfl) sc__law_sure_right.nd rfl rfl (by decide) rfl rfl (pa_cons (pe_callTy (call_dictDT (DL.rm2 hr)) (by rfl) T.n_dict (by decide +kernel) (pa_cons (pv 5) pa_nil)) (pa_cons (pe_callTy (call_dictDT (DL.rm2 hr)) (by rfl) T.n_dict (by decide +kernel) (pa_cons (pv 5) pa_nil)) pa_nil)) (by rfl))
  (pss_cons (ps_set (i := 12) sc__law_sure_right.nd rfl (.inl rfl) (pe_call (ok__law_pick T) (hr.mono (by decide)) (by rfl) T.g__law_pick T.F__law_pick.kp T.b__law_pick .nil pass0 (pa_cons (pv 0) (pa_cons (pe_callTy (call_list_dT rfl) (by rfl) T.n_list (by decide +kernel) (pa_cons (pv 5) pa_nil)) pa_nil))))
  (pss_cons (ps_dput (DL.rm1 hr) (pv 10) (pv 12) (pe_op op_sub (pe_op op_add (pe_dget (DL.rm1 hr) (pv 10) (pv 12) (fun _ _ => rfl)) (pe_call (ok__law_next T) (hr.mono (by decide)) (by rfl) T.g__law_next T.F__law_next.kp T.b__law_next .nil pass0 (pa_cons (pv 0) (pa_cons pe_int pa_nil)))) pe_int) rfl)
  (pss_cons (ps_expr (pe_bm PySem.F.plainAttrs_dict PySem.F.slot_dict_pop PySem.F.type_dict_pop (mt_pop1T (DL.rm1 hr)) (pv 11) (pa_cons (pv 12) pa_nil)))
  (pss_cons (ps_set (i := 13) sc__law_sure_right.nd rfl (.inl rfl) (pe_callTy (call_dictDT (DL.rm2 hr)) (by rfl) T.n_dict (by decide +kernel) (pa_cons (pv 6) pa_nil)))
  (pss_cons (ps_set (i := 14) sc__law_sure_right.nd rfl (.inl rfl) (pe_call (ok__law_state T) (hr.mono (by decide)) (by rfl) T.g__law_state T.F__law_state.kp T.b__law_state .nil pass0 (pa_cons (pv 0) (pa_cons (pv 1) pa_nil))))
  (pss_cons (ps_dput (DL.rm1 hr) (pv 13) (pv 14) (pe_op op_sub (pe_op op_add (pe_dget2 (DL.rm1 hr) (pv 13) (pv 14) pe_int ⟨rfl, rfl, rfl, rfl⟩) (pe_call (ok__law_next T) (hr.mono (by decide)) (by rfl) T.g__law_next T.F__law_next.kp T.b__law_next .nil pass0 (pa_cons (pv 0) (pa_cons pe_int pa_nil)))) pe_int) rfl)
  (pss_cons (ps_set (i := 15) sc__law_sure_right.nd rfl (.inl rfl) (pe_callTy (call_dictDT (DL.rm2 hr)) (by rfl) T.n_dict (by decide +kernel) (pa_cons (pv 5) pa_nil)))
  (pss_cons (ps_dput (DL.rm1 hr) (pv 15) (pe_call (ok__law_state T) (hr.mono (by decide)) (by rfl) T.g__law_state T.F__law_state.kp T.b__law_state .nil pass0 (pa_cons (pv 0) (pa_cons (pv 1) pa_nil))) (pe_call (ok__law_next T) (hr.mono (by decide)) (by rfl) T.g__law_next T.F__law_next.kp T.b__law_next .nil pass0 (pa_cons (pv 0) (pa_cons pe_int pa_nil))) rfl)
  (pss_cons (ps_set (i := 7) sc__law_sure_right.nd rfl (.inl rfl) (pe_op op_cat (pv 7) (pe_lst (pa_cons (pe_tup (pa_cons (pv 4) (pa_cons (pv 10) (pa_cons (pv 6) pa_nil)))) (pa_cons (pe_tup (pa_cons (pv 4) (pa_cons (pv 11) (pa_cons (pv 6) pa_nil)))) (pa_cons (pe_tup (pa_cons (pv 4) (pa_cons (pv 5) (pa_cons (pv 13) pa_nil)))) pa_nil))))))
  (pss_one (ps_set (i := 7) sc__law_sure_right.nd rfl (.inl rfl) (pe_op op_cat (pv 7) (pe_lst (pa_cons (pe_tup (pa_cons (pv 4) (pa_cons (pv 15) (pa_cons (pv 6) pa_nil)))) pa_nil))))))))))))))))
  (pss_cons (ps_for PassesOwn.never rfl (piList K (pv 7)) (pgTup K 3 (pgs_cons (pg_name (i := 16) sc__law_sure_right.nd rfl (.inl rfl)) (pgs_cons (pg_name (i := 17) sc__law_sure_right.nd rfl (.inl rfl)) (pgs_cons (pg_name (i := 18) sc__law_sure_right.nd rfl (.inl rfl)) pgs_nil)))) (pss_cons (ps_set (i := 19) sc__law_sure_right.nd rfl (.inl rfl) (pe_call (ok__law_right T) (hr.mono (by decide)) (by rfl) T.g__law_right T.F__law_right.kp T.b__law_right .nil pass0 (pa_cons (pv 1) (pa_cons (pv 2) (pa_cons (pe_tup (pa_cons (pv 16) (pa_cons (pv 17) (pa_cons (pv 18) pa_nil)))) pa_nil)))))
  (pss_one (ps_if (pt_cmpR op_ne (pe_meth (pe_make T.mk_Sure (ok_Sure___init__ T) (hr.mono (by decide)) (by rfl) T.g_Sure T.b_Sure___init__ .nil pass0 (pa_cons (pv 16) (pa_cons (pv 17) (pa_cons (pv 18) pa_nil)))) T.T_Sure.cl T.M_Sure_shows (ok_Sure_shows T) (hr.mono (by decide)) T.b_Sure_shows .nil pass0 (pa_cons (pv 1) (pa_cons (pv 2) pa_nil))) (pv 19) (nomark _)) (pss_one (ps_ret pe_bl)) pss_nil))))
  (pss_one (ps_ret (pe_cmpR (opEqOwn K (ok_Sure___eq__ T) T.M_Sure___eq__ T.b_Sure___eq__ (hr.mono (by decide))) (pv 3) (pe_make T.mk_Sure (ok_Sure___init__ T) (hr.mono (by decide)) (by rfl) T.g_Sure T.b_Sure___init__ .nil pass0 (pa_cons (pv 4) (pa_cons (pv 8) (pa_cons (pv 6) pa_nil)))) (nomark _))))))))))))), ?_⟩
  rintro m ds d m' ⟨ns, y, n, M, s, cost, hs, ls, rfl, rfl, hy, hn, hM, hS, dh, dl, ok, rfl, rfl⟩ -
  have fh := dh.few hM
  have fl := dl.few hM
  have ne : hs ≠ [] := fun z => by
    subst z
    exact absurd ok (by unfold sureShows; simp [lookI])
  let fd : D := sureD T.C_Sure cost hs ls
  let sl : Sl := [some (.own 0), some (.dat (mapD T.C_Map M)), some (.dat (stD s)), some (.dat fd), none, none, none, none, none, none, none, none, none, none, none, none, none, none, none, none]
  refine ⟨[.gone], .inl ?_⟩
  -- it is a Sure
  refine ds_seq (ss1 := sl) (m1 := [drM ns y n]) (ds_if_f (db_not (b := true) (db_test (dt_isiC (dt_var (i := 3) rfl) T.T_Sure))) ds_next) ?_
  -- its parts
  let s6 : Sl := [some (.own 0), some (.dat (mapD T.C_Map M)), some (.dat (stD s)), some (.dat fd), some (.dat (.int cost)), some (.dat (.dic (toD hs))), some (.dat (.dic (toD ls))), none, none, none, none, none, none, none, none, none, none, none, none, none]
  refine ds_seq (ss1 := s6) (m1 := [drM ns y n]) (ds_par3 (da_cons (dt_fld (dt_var (i := 3) rfl) T.T_Sure.cl T.na_Sure_cost rfl) (da_cons (dt_fld (dt_var (i := 3) rfl) T.T_Sure.cl T.na_Sure_heights rfl) (da_cons (dt_fld (dt_var (i := 3) rfl) T.T_Sure.cl T.na_Sure_levels rfl) da_nil)))) ?_
  -- right
  refine ds_seq (ss1 := s6) (m1 := [drM ns y n]) (ds_if_f (db_not (b := true) (db_test (dt_call (da_cons (dt_var (i := 1) rfl) (da_cons (dt_var (i := 2) rfl) (da_cons (dt_tup (da_cons (dt_var (i := 4) rfl) (da_cons (dt_var (i := 5) rfl) (da_cons (dt_var (i := 6) rfl) da_nil)))) da_nil))) ⟨M, s, cost, hs, ls, rfl, hM, hS, dh, dl, by rw [ok]⟩))) ds_next) ?_
  -- the first rows
  have row : ∀ {ss : Sl} {mem : List Mc} {ta tb tc : TE} {c : Int} {h l : List (List Int × Int)}, DT K ta ss mem (.dat (.int c)) mem → DT K tb ss mem (.dat (.dic (toD h))) mem → DT K tc ss mem (.dat (.dic (toD l))) mem → DT K (tTup (tCons ta (tCons tb (tCons tc tNil)))) ss mem (.dat (rowC c h l)) mem := fun a b c => dt_tup (da_cons a (da_cons b (da_cons c da_nil)))
  let s7 : Sl := s6.set 7 (some (.tl [rowC (cost + 1) hs ls, rowC (cost - 1) hs ls]))
  refine ds_seq (ss1 := s7) (m1 := [drM ns y n]) (ds_set (i := 7) (dt_lstT (da_cons (row (dt_i0 (dt_var (i := 4) rfl) dt_int) (dt_var (i := 5) rfl) (dt_var (i := 6) rfl)) (da_cons (row (dt_i0 (dt_var (i := 4) rfl) dt_int) (dt_var (i := 5) rfl) (dt_var (i := 6) rfl)) da_nil)))) ?_
  let s8 : Sl := s6.set 7 (some (.own 1))
  refine ds_seq (ss1 := s8) (m1 := [drM ns y n, .lst [rowC (cost + 1) hs ls, rowC (cost - 1) hs ls, rowC cost hs [], rowC cost [] ls]]) (ds_set (i := 7) (dt_catRO (ds := [rowC (cost + 1) hs ls, rowC (cost - 1) hs ls]) (es := [rowC cost hs [], rowC cost [] ls]) (dt_tlR (dt_var (i := 7) rfl)) (dt_lstT (da_cons (row (dt_var (i := 4) rfl) (dt_var (i := 5) rfl) dt_dnewD) (da_cons (row (dt_var (i := 4) rfl) dt_dnewD (dt_var (i := 6) rfl)) da_nil))) (by show 2 + 2 ≤ 16777216; decide))) ?_
  let s9 : Sl := s8.set 8 (some (.dat (.dic (toD hs.reverse))))
  refine ds_seq (ss1 := s9) (m1 := [drM ns y n, .lst [rowC (cost + 1) hs ls, rowC (cost - 1) hs ls, rowC cost hs [], rowC cost [] ls]]) (ds_set (i := 8) ?_) ?_
  · have e : DT K _ s8 [drM ns y n, .lst [rowC (cost + 1) hs ls, rowC (cost - 1) hs ls, rowC cost hs [], rowC cost [] ls]] (.dat (.dic (putAllI [] (toD hs).reverse))) _ :=
      dt_dictPrD (m := (toD hs).reverse) (te := tRevL K (tCB rListIt (tCons (tItemsR (tVar 5)) tNil))) (by
        rw [List.map_reverse]
        exact dt_rev (dt_rls (dt_listIt (m := toD hs) (x := .dat (.dic (toD hs))) (dt_var (i := 5) rfl) .dat)))
    rw [turned_toD dh] at e
    exact e
  refine ds_seq (ss1 := s9) (m1 := [drM ns y n, .lst (rows0 cost hs ls)]) (ds_drop (dt_append (n := 1) (ds := [rowC (cost + 1) hs ls, rowC (cost - 1) hs ls, rowC cost hs [], rowC cost [] ls]) (m1 := [drM ns y n, .lst [rowC (cost + 1) hs ls, rowC (cost - 1) hs ls, rowC cost hs [], rowC cost [] ls]]) (m2 := [drM ns y n, .lst [rowC (cost + 1) hs ls, rowC (cost - 1) hs ls, rowC cost hs [], rowC cost [] ls]]) (dt_var (i := 7) rfl) (da_cons (row (dt_var (i := 4) rfl) (dt_var (i := 8) rfl) (dt_var (i := 6) rfl)) da_nil) rfl rfl (by show 4 < 16777216; decide))) ?_
  refine ds_frzR (n := 1) (ds := rows0 cost hs ls) 7 rfl rfl ?_
  -- two turns
  let f : Nat → Sl := fun i => [some (.own 0), some (.dat (mapD T.C_Map M)), some (.dat (stD s)), some (.dat fd), some (.dat (.int cost)), some (.dat (.dic (toD hs))), some (.dat (.dic (toD ls))), some (.dat (.rls (rowsN ns y M cost hs ls n i))), some (.dat (.dic (toD hs.reverse))), none, none, none, none, none, none, none, none, none, none, none]
  refine ds_seq (ss1 := f 2) (m1 := [drM ns y (tEnds ns y n 2), .gone]) (ds_forW [9, 10, 11, 12, 13, 14, 15] f (fun i => [drM ns y (tEnds ns y n i), .gone]) rfl (di_rng1 (da_cons dt_int da_nil) (by decide) (by decide)) (fun _ => rfl) (fun _ => rfl) fun i hi => ?_) ?_
  · have hc := tEnds_nn (ns := ns) (y := y) hn i
    have hlen := rowsN_len ns y M cost hs ls n i
    have hi2 : i < 2 := hi
    show ∃ s' more, DS K _ _ [drM ns y (tEnds ns y n i), .gone] (.nx s' ([drM ns y (tEnd ns y (tEnds ns y n i)), .gone] ++ more)) ∧ wipeS s' _ = f (i + 1)
    let L := rowsN ns y M cost hs ls n i
    have ef : f (i + 1) = [some (.own 0), some (.dat (mapD T.C_Map M)), some (.dat (stD s)), some (.dat fd), some (.dat (.int cost)), some (.dat (.dic (toD hs))), some (.dat (.dic (toD ls))), some (.dat (.rls ((L ++ [rowC cost (tBent ns y hs (tEnds ns y n i)) ls, rowC cost (tLess ns y hs (tEnds ns y n i)) ls, rowC cost hs (tMore ns y M ls (tEnds ns y n i))]) ++ [rowC cost (tWild ns y M hs (tEnds ns y n i)) ls]))), some (.dat (.dic (toD hs.reverse))), none, none, none, none, none, none, none, none, none, none, none] := rfl
    rw [ef]
    have eb : putI (toD hs) (tSpot ns y hs (tEnds ns y n i)) (.int (tVal ns y hs (tEnds ns y n i) + dv ns y (tEnds ns y n i + 1) 5 - 2)) = toD (tBent ns y hs (tEnds ns y n i)) := put_toD _ _ _
    have el : dropI (toD hs) (tSpot ns y hs (tEnds ns y n i)) = toD (tLess ns y hs (tEnds ns y n i)) := drop_toD _ _
    have em : putI (toD ls) (stOf ns y (tEnds ns y n i + 1 + 1) M).row (.int ((lookI ls (stOf ns y (tEnds ns y n i + 1 + 1) M).row).getD 0 + dv ns y (stEnd ns y (tEnds ns y n i + 1 + 1)) 5 - 2)) = toD (tMore ns y M ls (tEnds ns y n i)) := put_toD _ _ _
    have ew : putI (toD hs) (stOf ns y (stEnd ns y (tEnds ns y n i + 1 + 1) + 1 + 1) M).row (.int (dv ns y (stEnd ns y (tEnds ns y n i + 1 + 1) + 1) 20)) = toD (tWild ns y M hs (tEnds ns y n i)) := put_toD _ _ _
    have get := sure_turn (ns := ns) (y := y) (c := tEnds ns y n i) (ls := ls) dh ne
    generalize tEnds ns y n i = c at hc eb el em ew get
    have hc3 := stEnd_nn (ns := ns) (y := y) (n := c + 1 + 1) (by omega)
    let c3 := stEnd ns y (c + 1 + 1)
    have ec3 : stEnd ns y (c + 1 + 1) = c3 := rfl
    let st1 := stOf ns y (c + 1 + 1) M
    let st2 := stOf ns y (c3 + 1 + 1) M
    let a : Nat → Sl → Sl := fun j t => [some (.own 0), some (.dat (mapD T.C_Map M)), some (.dat (stD s)), some (.dat fd), some (.dat (.int cost)), some (.dat (.dic (toD hs))), some (.dat (.dic (toD ls))), some (.dat (.rls L)), some (.dat (.dic (toD hs.reverse))), some (.dat (.int (0 + (j : Nat))))] ++ t
    let t1 : Sl := a i [some (.own 2), some (.own 3), none, none, none, none, none, none, none, none]
    refine ⟨[some (.own 0), some (.dat (mapD T.C_Map M)), some (.dat (stD s)), some (.dat fd), some (.dat (.int cost)), some (.dat (.dic (toD hs))), some (.dat (.dic (toD ls))), some (.dat (.rls ((L ++ [rowC cost (tBent ns y hs c) ls, rowC cost (tLess ns y hs c) ls, rowC cost hs (tMore ns y M ls c)]) ++ [rowC cost (tWild ns y M hs c) ls]))), some (.dat (.dic (toD hs.reverse))), some (.dat (.int (0 + (i : Nat)))), some (.dat (.dic (toD (tBent ns y hs c)))), some (.dat (.dic (toD (tLess ns y hs c)))), some (.dat (rowD (tSpot ns y hs c))), some (.dat (.dic (toD (tMore ns y M ls c)))), some (.dat (stD st1)), some (.dat (.dic (toD (tWild ns y M hs c)))), none, none, none, none], [.gone, .gone, .gone, .gone], ?_, rfl⟩
    show DS K _ (a i [none, none, none, none, none, none, none, none, none, none]) [drM ns y c, .gone] _
    -- two copies
    refine ds_seq (ss1 := t1) (m1 := [drM ns y c, .gone, .dic (toD hs), .dic (toD hs)]) (ds_parV (dav_cons (dt_dictD (m := toD hs) (x := .dat (.dic (toD hs))) (dt_var (i := 5) rfl) .dat (dh.apart hM)) (dav_cons (dt_dictD (m := toD hs) (x := .dat (.dic (toD hs))) (dt_var (i := 5) rfl) .dat (dh.apart hM)) dav_nil))) ?_
    -- the spot
    let t2 : Sl := a i [some (.own 2), some (.own 3), some (.dat (rowD (tSpot ns y hs c))), none, none, none, none, none, none, none]
    refine ds_seq (ss1 := t2) (m1 := [drM ns y (c + 1), .gone, .dic (toD hs), .dic (toD hs)]) (ds_set (i := 12) ?_) ?_
    · have e1 : ((toD hs).map fun p => rowD p.1) = hs.map fun p => rowD p.1 := by
        unfold toD
        rw [List.map_map]
        rfl
      have pos : 0 < hs.length := List.length_pos_iff.mpr ne
      obtain ⟨k0, k1⟩ := dv_bd (ns := ns) (y := y) (n := c) (show (0 : Int) < (hs.length : Nat) by omega)
      have hp : DT K _ t1 [drM ns y c, .gone, .dic (toD hs), .dic (toD hs)] _ _ := dt_pick (K := K) (ns := ns) (y := y) (n := c) (o := 0) (E := E0) (to := tVar 0) (mem := [drM ns y c, .gone, .dic (toD hs), .dic (toD hs)]) (ss := t1) (dt_var rfl) (dt_listD (td := tVar 5) (m := toD hs) (x := .dat (.dic (toD hs))) (dt_var (i := 5) rfl) .dat) rfl (by rw [e1, Ne, List.map_eq_nil_iff]; exact ne) hy hc
      rw [e1, List.length_map, nthD_map (fun p : List Int × Int => rowD p.1) (show (dv ns y c hs.length).toNat < hs.length by omega) ([], 0)] at hp
      exact hp
    -- bent
    refine ds_seq (ss1 := t2) (m1 := [drM ns y (c + 1 + 1), .gone, .dic (toD (tBent ns y hs c)), .dic (toD hs)]) ?_ ?_
    · have h := ds_dput (K := K) (ss := t2) (mem := [drM ns y (c + 1), .gone, .dic (toD hs), .dic (toD hs)]) (n := 2) (k := tSpot ns y hs c) (m := toD hs) (ty := tVar 12) (td := tVar 10)
        (dt_i0 (g := fun i j => i - j) (dt_i0 (g := fun i j => i + j) (dt_dget (td := tVar 10) (ty := tVar 12) (x := .own 2) (m := toD hs) (dt_var (i := 10) rfl) (dt_var (i := 12) rfl) (.own rfl) get) (dt_next (n := c + 1) (o := 0) (E := E0) (to := tVar 0) (dt_var rfl) (dt_int (i := 5)) rfl (by decide) hy (by omega))) (dt_int (i := 2))) (dt_var (i := 10) rfl) (dt_var (i := 12) rfl) rfl (by rw [toD_len]; omega)
      rw [eb] at h
      exact h
    -- less
    refine ds_seq (ss1 := t2) (m1 := [drM ns y (c + 1 + 1), .gone, .dic (toD (tBent ns y hs c)), .dic (toD (tLess ns y hs c))]) ?_ ?_
    · have h := ds_drop (dt_pop1 (K := K) (ss := t2) (mem := [drM ns y (c + 1 + 1), .gone, .dic (toD (tBent ns y hs c)), .dic (toD hs)]) (n := 3) (m := toD hs) (td := tVar 11) (dt_var (i := 11) rfl) rfl (da_cons (dt_var (i := 12) rfl) da_nil) rfl get)
      rw [el] at h
      exact h
    -- more
    let t3 : Sl := a i [some (.own 2), some (.own 3), some (.dat (rowD (tSpot ns y hs c))), some (.own 4), none, none, none, none, none, none]
    refine ds_seq (ss1 := t3) (m1 := [drM ns y (c + 1 + 1), .gone, .dic (toD (tBent ns y hs c)), .dic (toD (tLess ns y hs c)), .dic (toD ls)]) (ds_set (i := 13) (dt_dictD (m := toD ls) (x := .dat (.dic (toD ls))) (dt_var (i := 6) rfl) .dat (dl.apart hM))) ?_
    -- other
    let t4 : Sl := a i [some (.own 2), some (.own 3), some (.dat (rowD (tSpot ns y hs c))), some (.own 4), some (.dat (stD st1)), none, none, none, none, none]
    refine ds_seq (ss1 := t4) (m1 := [drM ns y c3, .gone, .dic (toD (tBent ns y hs c)), .dic (toD (tLess ns y hs c)), .dic (toD ls)]) (ds_set (i := 14) (dt_callO (p := 0) (m := drM ns y (c + 1 + 1)) (dao_cons (dt_var rfl) (da_cons (dt_var rfl) da_nil)) rfl (fun z => by cases z) ⟨ns, y, c + 1 + 1, M, rfl, rfl, hM, hy, by omega, rfl, rfl⟩)) ?_
    refine ds_seq (ss1 := t4) (m1 := [drM ns y (c3 + 1), .gone, .dic (toD (tBent ns y hs c)), .dic (toD (tLess ns y hs c)), .dic (toD (tMore ns y M ls c))]) ?_ ?_
    · have g2 : DT K (tDGet2 (tVar 13) (tVar 14) (tC (.int 0))) t4 [drM ns y c3, .gone, .dic (toD (tBent ns y hs c)), .dic (toD (tLess ns y hs c)), .dic (toD ls)] (.dat (.int ((lookI ls st1.row).getD 0))) [drM ns y c3, .gone, .dic (toD (tBent ns y hs c)), .dic (toD (tLess ns y hs c)), .dic (toD ls)] := by
        have z := dt_dget2 (K := K) (ss := t4) (mem := [drM ns y c3, .gone, .dic (toD (tBent ns y hs c)), .dic (toD (tLess ns y hs c)), .dic (toD ls)]) (k := st1.row) (m := toD ls) (e := .int 0) (x := .own 4) (dt_var (i := 13) rfl) (.own rfl) (dt_var (i := 14) rfl) (dt_int (i := 0)) (.own rfl)
        rw [getD_toD] at z
        exact z
      have h := ds_dput (K := K) (ss := t4) (n := 4) (k := st1.row) (m := toD ls) (ty := tVar 14) (td := tVar 13) (dt_i0 (g := fun i j => i - j) (dt_i0 (g := fun i j => i + j) g2 (dt_next (n := c3) (o := 0) (E := E0) (to := tVar 0) (dt_var rfl) (dt_int (i := 5)) rfl (by decide) hy hc3)) (dt_int (i := 2))) (dt_var (i := 13) rfl) (dt_var (i := 14) rfl) rfl (by rw [toD_len]; omega)
      rw [em] at h
      exact h
    -- wild
    let t5 : Sl := a i [some (.own 2), some (.own 3), some (.dat (rowD (tSpot ns y hs c))), some (.own 4), some (.dat (stD st1)), some (.own 5), none, none, none, none]
    refine ds_seq (ss1 := t5) (m1 := [drM ns y (c3 + 1), .gone, .dic (toD (tBent ns y hs c)), .dic (toD (tLess ns y hs c)), .dic (toD (tMore ns y M ls c)), .dic (toD hs)]) (ds_set (i := 15) (dt_dictD (m := toD hs) (x := .dat (.dic (toD hs))) (dt_var (i := 5) rfl) .dat (dh.apart hM))) ?_
    refine ds_seq (ss1 := t5) (m1 := [drM ns y (tEnd ns y c), .gone, .dic (toD (tBent ns y hs c)), .dic (toD (tLess ns y hs c)), .dic (toD (tMore ns y M ls c)), .dic (toD (tWild ns y M hs c))]) ?_ ?_
    · have h := ds_dput (K := K) (ss := t5) (n := 5) (m2 := [drM ns y (c3 + 1 + 1), .gone, .dic (toD (tBent ns y hs c)), .dic (toD (tLess ns y hs c)), .dic (toD (tMore ns y M ls c)), .dic (toD hs)]) (m3 := [drM ns y (stEnd ns y (c3 + 1 + 1)), .gone, .dic (toD (tBent ns y hs c)), .dic (toD (tLess ns y hs c)), .dic (toD (tMore ns y M ls c)), .dic (toD hs)]) (k := st2.row) (m := toD hs) (td := tVar 15) (d := .int (dv ns y (c3 + 1) 20)) (dt_next (n := c3 + 1) (o := 0) (E := E0) (to := tVar 0) (mem := [drM ns y (c3 + 1), .gone, .dic (toD (tBent ns y hs c)), .dic (toD (tLess ns y hs c)), .dic (toD (tMore ns y M ls c)), .dic (toD hs)]) (dt_var rfl) (dt_int (i := 20)) rfl (by decide) hy (by omega)) (dt_var (i := 15) rfl)
        (dt_callO (m1 := [drM ns y (c3 + 1 + 1), .gone, .dic (toD (tBent ns y hs c)), .dic (toD (tLess ns y hs c)), .dic (toD (tMore ns y M ls c)), .dic (toD hs)]) (p := 0) (E := E0) (R := R_state T.C_Map) (t := tCons (tVar 0) (tCons (tVar 1) tNil)) (m := drM ns y (c3 + 1 + 1)) (n := 2) (d := stD st2) (m' := drM ns y (stEnd ns y (c3 + 1 + 1))) (dao_cons (ta := tVar 0) (dt_var rfl) (da_cons (dt_var rfl) da_nil)) rfl (fun z => by cases z) ⟨ns, y, c3 + 1 + 1, M, rfl, rfl, hM, hy, by omega, rfl, rfl⟩) rfl (by rw [toD_len]; omega)
      rw [ew] at h
      exact h
    -- as data
    refine ds_frzD (n := 2) (m := toD (tBent ns y hs c)) 10 rfl rfl ?_
    refine ds_frzD (n := 3) (m := toD (tLess ns y hs c)) 11 rfl rfl ?_
    refine ds_frzD (n := 4) (m := toD (tMore ns y M ls c)) 13 rfl rfl ?_
    refine ds_frzD (n := 5) (m := toD (tWild ns y M hs c)) 15 rfl rfl ?_
    let t6 : Sl := a i [some (.dat (.dic (toD (tBent ns y hs c)))), some (.dat (.dic (toD (tLess ns y hs c)))), some (.dat (rowD (tSpot ns y hs c))), some (.dat (.dic (toD (tMore ns y M ls c)))), some (.dat (stD st1)), some (.dat (.dic (toD (tWild ns y M hs c)))), none, none, none, none]
    show DS K _ t6 [drM ns y (tEnd ns y c), .gone, .gone, .gone, .gone, .gone] _
    refine ds_seq (ss1 := t6.set 7 (some (.dat (.rls (L ++ [rowC cost (tBent ns y hs c) ls, rowC cost (tLess ns y hs c) ls, rowC cost hs (tMore ns y M ls c)]))))) (m1 := [drM ns y (tEnd ns y c), .gone, .gone, .gone, .gone, .gone]) (ds_set (i := 7) (dt_tlR (dt_catR (dt_var (i := 7) rfl) (dt_lstT (da_cons (row (dt_var (i := 4) rfl) (dt_var (i := 10) rfl) (dt_var (i := 6) rfl)) (da_cons (row (dt_var (i := 4) rfl) (dt_var (i := 11) rfl) (dt_var (i := 6) rfl)) (da_cons (row (dt_var (i := 4) rfl) (dt_var (i := 5) rfl) (dt_var (i := 13) rfl)) da_nil)))) (by rw [hlen]; show 5 + 4 * i + 3 ≤ 16777216; omega)))) ?_
    exact ds_set (i := 7) (dt_tlR (dt_catR (dt_var (i := 7) rfl) (dt_lstT (da_cons (row (dt_var (i := 4) rfl) (dt_var (i := 15) rfl) (dt_var (i := 6) rfl)) da_nil)) (by rw [List.length_append, hlen]; show 5 + 4 * i + 3 + 1 ≤ 16777216; omega)))
  -- each row
  let R2 := rowsN ns y M cost hs ls n 2
  have rok := rows_ok hM dh dl ne (ns := ns) (y := y) (cost := cost) n 2
  refine ds_seq (ss1 := f 2) (m1 := [drM ns y (tEnds ns y n 2), .gone]) (ds_forG [16, 17, 18, 19] (fun _ => f 2) (fun _ => [drM ns y (tEnds ns y n 2), .gone]) rfl (di_list (ds := R2) (dt_rls (dt_var (i := 7) rfl))) (fun _ => rfl) (fun _ => rfl) fun i hi => ?_) ?_
  · obtain ⟨c1, h1, l1, e1, d1, d2⟩ := rok (nthD R2 i) (List.mem_of_getElem? (nthD_get hi))
    rw [e1]
    have q1 := d1.few hM
    have q2 := d2.few hM
    let g3 : Sl := (((f 2).set 16 (some (.dat (.int c1)))).set 17 (some (.dat (.dic (toD h1))))).set 18 (some (.dat (.dic (toD l1))))
    refine ⟨g3, _, g3.set 19 (some (.dat (.bl (sureShows M s c1 h1 l1)))), [], dg_tup (dgs_cons dg_name (dgs_cons dg_name (dgs_cons dg_name dgs_nil))) rfl, ?_, rfl⟩
    refine ds_seq (ss1 := g3.set 19 (some (.dat (.bl (sureShows M s c1 h1 l1))))) (m1 := [drM ns y (tEnds ns y n 2), .gone]) (ds_set (i := 19) (dt_call (da_cons (dt_var (i := 1) rfl) (da_cons (dt_var (i := 2) rfl) (da_cons (dt_tup (da_cons (dt_var (i := 16) rfl) (da_cons (dt_var (i := 17) rfl) (da_cons (dt_var (i := 18) rfl) da_nil)))) da_nil))) ⟨M, s, c1, h1, l1, rfl, hM, hS, d1, d2, rfl⟩)) ?_
    exact ds_if_f (m1 := [drM ns y (tEnds ns y n 2), .gone]) (db_test (dt_neB_same (a := sureShows M s c1 h1 l1) (dt_meth (dt_make (da_cons (dt_var (i := 16) rfl) (da_cons (dt_var (i := 17) rfl) (da_cons (dt_var (i := 18) rfl) da_nil))) ⟨c1, h1, l1, rfl, rfl, d1.nd, d2.nd, by omega, by omega, rfl, rfl⟩) rfl (da_cons (dt_var (i := 1) rfl) (da_cons (dt_var (i := 2) rfl) da_nil)) ⟨M, s, c1, h1, l1, rfl, hM, hS, d1, d2, rfl⟩) (dt_var (i := 19) rfl))) ds_next
  exact ds_ret (dt_eqOwn (dt_var (i := 3) rfl) (dt_make (da_cons (dt_var (i := 4) rfl) (da_cons (dt_var (i := 8) rfl) (da_cons (dt_var (i := 6) rfl) da_nil))) ⟨cost, hs.reverse, ls, rfl, rfl, dh.rev.nd, dl.nd, by rw [List.length_reverse]; omega, by omega, rfl, rfl⟩) ⟨cost, hs, hs.reverse, ls, rfl, by rw [List.length_reverse], dh.rev.nd, dl.nd, fun p hp => List.mem_reverse.mpr hp, rfl⟩)
end
end K2
end
section
set_option Elab.async false
set_option linter.all false
set_option maxRecDepth 100000
set_option maxHeartbeats 4000000
namespace K2
open PySem PySem.Spec PyProof.Rows L2 DL
theorem top_bd2 (l : Int) : 1 ≤ (if (if l < 8 then l else 8) > 1 then (if l < 8 then l else 8) else 1) ∧ (if (if l < 8 then l else 8) > 1 then (if l < 8 then l else 8) else 1) ≤ 16 := by
  constructor
  · split <;> (try split) <;> omega
  · split
    · split <;> omega
    · omega
theorem flat_opt (v : Option Int) : D.flat 2 (optD v) = true := by
  cases v <;> rfl
section
variable {P : Program} {w : World} {K : PySem.W.Frag} {mg : Str → Option Value} {base : Heap} {k : Nat}
theorem ok__law_worth (T : Txt K mg) : FnOk P w K mg base CX0 11 T.a__law_worth T.fd__law_worth ["_law_chart", "_law_state_here", "_law_met"] (spM K 3 (R_worthN T.C_Map 5)) := ok_worthN T 5
theorem ok_law (T : Txt K mg) : FnOk P w K mg base CX0 14 T.a_law T.fd_law ["_law_script"] (spP K 1 R_law) := by
  refine fnP T.F_law sc_law rfl (fun cdv A outer s H E hr => ?_)
  refine ⟨_, (pss_cons (ps_for PassesOwn.never rfl (pi_range3 (by rfl) T.n_range (pa_cons pe_int (pa_cons (pe_callB (call_max2 rfl) (by rfl) T.n_max (by decide +kernel) (pa_cons pe_int (pa_cons (pe_callB (call_min2 rfl) (by rfl) T.n_min (by decide +kernel) (pa_cons pe_int (pa_cons (pe_callB (callLen K) (by rfl) T.n_len PySem.boot_len (pa_cons (pv 0) pa_nil)) pa_nil))) pa_nil))) (pa_cons pe_int pa_nil)))) (pg_name (i := 1) sc_law.nd rfl (.inl rfl)) (pss_cons (ps_set (i := 2) sc_law.nd rfl (.inl rfl) (pe_lst (pa_cons (pv 0) (pa_cons (pv 1) (pa_cons pe_int pa_nil)))))
  (pss_cons (ps_set (i := 3) sc_law.nd rfl (.inl rfl) (pe_call (ok__law_map T) (hr.mono (by decide)) (by rfl) T.g__law_map T.F__law_map.kp T.b__law_map .nil pass0 (pa_cons (pv 2) (pa_cons pe_int pa_nil))))
  (pss_cons (ps_set (i := 4) sc_law.nd rfl (.inl rfl) (pe_call (ok__law_state T) (hr.mono (by decide)) (by rfl) T.g__law_state T.F__law_state.kp T.b__law_state .nil pass0 (pa_cons (pv 2) (pa_cons (pv 3) pa_nil))))
  (pss_cons (ps_par (i := 5) (j := 6) (by rfl) sc_law.nd rfl rfl (by decide) rfl rfl (pa_cons (pe_call (ok__law_worth T) (hr.mono (by decide)) (by rfl) T.g__law_worth T.F__law_worth.kp T.b__law_worth .nil pass0 (pa_cons (pv 3) (pa_cons (pv 4) (pa_cons pe_dnewT pa_nil)))) (pa_cons (pe_call (ok_sure T) (hr.mono (by decide)) (by rfl) T.g_sure T.F_sure.kp T.b_sure .nil pass0 (pa_cons (pv 3) (pa_cons (pv 4) pa_nil))) pa_nil)) (by rfl))
  (pss_cons (ps_if (PW.pt (pw_or (pt_cmpR (opNeD K hr.units) (pe_call (ok_sure_cost T) (hr.mono (by decide)) (by rfl) T.g_sure_cost T.F_sure_cost.kp T.b_sure_cost .nil pass0 (pa_cons (pv 3) (pa_cons (pv 4) pa_nil))) (pv 5) (nomark _)) (pw_or1 (pt_cmpR op_notBl (pe_either (pe_meth (pv 6) T.T_Sure.cl T.M_Sure_shows (ok_Sure_shows T) (hr.mono (by decide)) T.b_Sure_shows .nil pass0 (pa_cons (pv 3) (pa_cons (pv 4) pa_nil))) (pe_meth (pv 6) T.T_Spoils.cl T.M_Spoils_shows (ok_Spoils_shows T) (hr.mono (by decide)) T.b_Spoils_shows .nil pass0 (pa_cons (pv 3) (pa_cons (pv 4) pa_nil)))) pe_bl (nomark _))))) (pss_one (ps_ret pe_bl)) pss_nil)
  (pss_cons (ps_if (PW.pt (pw_and (pt_cmp (pc_isN (pv 5))) (pw_and1 (pt_not (pt_val (pe_call (ok__law_spoils_right T) (hr.mono (by decide)) (by rfl) T.g__law_spoils_right T.F__law_spoils_right.kp T.b__law_spoils_right .nil pass0 (pa_cons (pv 2) (pa_cons (pv 3) (pa_cons (pv 4) (pa_cons (pv 6) pa_nil)))))))))) (pss_one (ps_ret pe_bl)) pss_nil)
  (pss_one (ps_if (pt_cmp (pc_notN (pv 5))) (pss_one (ps_if (PW.pt (pw_or (pt_cmpR op_ne (peFld K (pv 6)) (pv 5) (nomark _)) (pw_or1 (pt_not (pt_val (pe_call (ok__law_sure_right T) (hr.mono (by decide)) (by rfl) T.g__law_sure_right T.F__law_sure_right.kp T.b__law_sure_right .nil pass0 (pa_cons (pv 2) (pa_cons (pv 3) (pa_cons (pv 4) (pa_cons (pv 6) pa_nil)))))))))) (pss_one (ps_ret pe_bl)) pss_nil)) pss_nil)))))))))
  (pss_one (ps_ret pe_bl))), ?_⟩
  rintro ds d ⟨ns, hl, rfl, rfl⟩ -
  have hlen : ((ns.map D.int).length : Int) = ns.length := by rw [List.length_map]
  refine .rt ?_
  let sc : Option Vl := some (.dat (.lst (ns.map .int)))
  let f : Nat → Sl := fun _ => [sc, none, none, none, none, none, none]
  let top : Int := if (if ((ns.map D.int).length : Int) < (8 : Int) then ((ns.map D.int).length : Int) else 8) > 1 then (if ((ns.map D.int).length : Int) < (8 : Int) then ((ns.map D.int).length : Int) else 8) else 1
  obtain ⟨ht1, ht2⟩ := top_bd2 ((ns.map D.int).length : Int)
  obtain ⟨turns, hrg⟩ := rgc4 top ht1 ht2
  refine ds_seq (ds_forW [1, 2, 3, 4, 5, 6] f (fun _ => []) rfl (di_rng3 (da_cons dt_int (da_cons (dt_max2 (da_cons dt_int (da_cons (dt_min2 (da_cons dt_int (da_cons (dt_lenL (dt_var rfl)) da_nil))) da_nil))) (da_cons dt_int da_nil))) hrg) (fun _ => rfl) (fun _ => rfl) fun i hi => ?_) (ds_ret dt_bl)
  let y : Int := 0 + (i : Nat) * 4
  have hy : 0 ≤ y := by show (0 : Int) ≤ 0 + (i : Nat) * 4; omega
  let M := mapOf ns y 0 4
  have hM : M.Ok := mapOf_ok (by decide) (by decide)
  let n0 := mapEnd ns y 0 4
  have hn0 : 0 ≤ n0 := mapEnd_nn (by decide)
  let s := stOf ns y n0 M
  have hS : s.Ok M := stOf_ok hM
  let n1 := stEnd ns y n0
  have hn1 : 0 ≤ n1 := stEnd_nn hn0
  have ec := cost_least hM hS
  let vy : Option Vl := some (.dat (.int y))
  let vM : Option Vl := some (.dat (mapD T.C_Map M))
  let vs : Option Vl := some (.dat (stD s))
  let W := worthC M 5 s []
  let g : Sl := [sc, vy, some (.own 0), vM, vs, some (.dat (optD (M.cost s))), some (.dat (sureOf T.C_Sure T.C_Spoils M s))]
  suffices last : ∃ n2, DS K _ g [drM ns y n1, .dic W] (.nx g [drM ns y n2, .dic W]) by
    obtain ⟨n2, last⟩ := last
    refine ⟨g, [drM ns y n2, .dic W], ?_, rfl⟩
    refine ds_seq (ds_set (dt_lstO (da_cons (dt_var rfl) (da_cons (dt_var rfl) (da_cons dt_int da_nil))))) ?_
    refine ds_seq (ss1 := [sc, vy, some (.own 0), vM, none, none, none]) (m1 := [drM ns y n0]) (ds_set (i := 3) (r := .dat (mapD T.C_Map M)) (dt_callO (p := 0) (m := drM ns y 0) (dao_cons (dt_var rfl) (da_cons dt_int da_nil)) rfl (fun z => by cases z) ⟨ns, y, 0, 4, rfl, rfl, by decide, by decide, hy, by decide, rfl, rfl⟩)) ?_
    refine ds_seq (ss1 := [sc, vy, some (.own 0), vM, vs, none, none]) (m1 := [drM ns y n1]) (ds_set (i := 4) (dt_callO (p := 0) (m := drM ns y n0) (dao_cons (dt_var rfl) (da_cons (dt_var rfl) da_nil)) rfl (fun z => by cases z) ⟨ns, y, n0, M, rfl, rfl, hM, hy, hn0, rfl, rfl⟩)) ?_
    refine ds_seq (ss1 := g) (m1 := [drM ns y n1, .dic W]) (ds_par (da_cons (dt_callM (p := 1) (m := .dic []) (m' := .dic W) (m1 := [drM ns y n1, .dic []]) (dav_cons (dt_var (i := 3) rfl) (dav_cons (dt_var (i := 4) rfl) (dav_cons dt_dnew dav_nil))) ?_ rfl ⟨M, s, [], rfl, rfl, hM, hS, Tab.nil, tells_nil M, by have := hM.p5; have := hS.p0; omega, by rw [ec], rfl⟩) (da_cons (dt_call (da_cons (dt_var (i := 3) rfl) (da_cons (dt_var (i := 4) rfl) da_nil)) ⟨M, s, rfl, hM, hS, rfl⟩) da_nil))) ?_
    · intro q hq
      rcases List.mem_cons.mp hq with e | hq
      · exact .inl ⟨_, e⟩
      rcases List.mem_cons.mp hq with e | hq
      · exact .inl ⟨_, e⟩
      · exact .inr (List.mem_singleton.mp hq)
    exact last
  -- what is compared
  have sam : DT K (tOp (rNeD K) (tCall (spP K 2 (R_sure_cost T.C_Map)) [] E0 (tCons (tVar 3) (tCons (tVar 4) tNil))) (tVar 5)) g [drM ns y n1, .dic W] (.dat (.bl false)) [drM ns y n1, .dic W] :=
    dt_neD_same (n := 2) (dt_call (da_cons (dt_var (i := 3) rfl) (da_cons (dt_var (i := 4) rfl) da_nil)) ⟨M, s, rfl, hM, hS, rfl⟩) (dt_var (i := 5) rfl) (flat_opt _)
  cases q : M.cost s with
  | none =>
    have e6 : sureOf T.C_Sure T.C_Spoils M s = spoilsD T.C_Spoils (goneOf (M.table s)) := by
      unfold sureOf
      rw [q]
    have e5 : optD (M.cost s) = .non := by rw [q]; rfl
    have hg : g = [sc, vy, some (.own 0), vM, vs, some (.dat .non), some (.dat (spoilsD T.C_Spoils (goneOf (M.table s))))] := by
      show [sc, vy, some (.own 0), vM, vs, some (.dat (optD (M.cost s))), some (.dat (sureOf T.C_Sure T.C_Spoils M s))] = _
      rw [e5, e6]
    rw [hg] at sam ⊢
    have rw' : Rws M (goneOf (M.table s)) := fun r h => let z := gone_key hM hS h; ⟨z.1, z.2.1⟩
    have few := gone_few hM hS
    have ok := spoils_true hM hS q
    refine ⟨stEnd ns y (n1 + 1), ?_⟩
    refine ds_seq (ds_if_f (db_or_f (db_test sam) (db_test (dt_notB (a := true) (b := true) (dt_right (dt_meth (dt_var (i := 6) rfl) rfl (da_cons (dt_var (i := 3) rfl) (da_cons (dt_var (i := 4) rfl) da_nil)) ⟨M, s, goneOf (M.table s), rfl, hM, hS, rw', by omega, by rw [ok]⟩)) dt_bl))) ds_next) ?_
    refine ds_seq (ds_if_f (m1 := [drM ns y (stEnd ns y (n1 + 1)), .dic W]) (db_and_t (db_b (dt_isN (d := .non) (dt_var (i := 5) rfl))) (db_not (b := true) (db_test (dt_callO (p := 0) (m := drM ns y n1) (dao_cons (dt_var rfl) (da_cons (dt_var rfl) (da_cons (dt_var rfl) (da_cons (dt_var rfl) da_nil)))) rfl (fun z => by cases z) ⟨ns, y, n1, M, s, goneOf (M.table s), rfl, rfl, hy, hn1, hM, hS, rw', few, ok, rfl, rfl⟩)))) ds_next) ?_
    exact ds_if_f (db_b (dt_notN (d := .non) (dt_var (i := 5) rfl))) ds_next
  | some v =>
    have e6 : sureOf T.C_Sure T.C_Spoils M s = sureD T.C_Sure v (hsOf (M.table s)) (levOf (M.table s) v) := by
      unfold sureOf
      rw [q]
    have e5 : optD (M.cost s) = .int v := by rw [q]; rfl
    have hg : g = [sc, vy, some (.own 0), vM, vs, some (.dat (.int v)), some (.dat (sureD T.C_Sure v (hsOf (M.table s)) (levOf (M.table s) v)))] := by
      show [sc, vy, some (.own 0), vM, vs, some (.dat (optD (M.cost s))), some (.dat (sureOf T.C_Sure T.C_Spoils M s))] = _
      rw [e5, e6]
    rw [hg] at sam ⊢
    have dh := dct_hs hM hS
    have dl := dct_lev hM hS v
    have ok := sure_true hM hS q
    refine ⟨tEnds ns y n1 2, ?_⟩
    refine ds_seq (ds_if_f (db_or_f (db_test sam) (db_test (dt_notB (a := true) (b := true) (dt_left (dt_meth (dt_var (i := 6) rfl) rfl (da_cons (dt_var (i := 3) rfl) (da_cons (dt_var (i := 4) rfl) da_nil)) ⟨M, s, v, hsOf (M.table s), levOf (M.table s) v, rfl, hM, hS, dh, dl, by rw [ok]⟩)) dt_bl))) ds_next) ?_
    refine ds_seq (ds_if_f (db_and_f (db_b (dt_isN (d := .int v) (dt_var (i := 5) rfl)))) ds_next) ?_
    refine ds_if_t (db_b (dt_notN (d := .int v) (dt_var (i := 5) rfl))) (ds_if_f (m1 := [drM ns y (tEnds ns y n1 2), .dic W]) (db_or_f (m1 := [drM ns y n1, .dic W]) ?_ (db_not (b := true) (db_test (dt_callO (p := 0) (m := drM ns y n1) (dao_cons (dt_var rfl) (da_cons (dt_var rfl) (da_cons (dt_var rfl) (da_cons (dt_var rfl) da_nil)))) rfl (fun z => by cases z) ⟨ns, y, n1, M, s, v, hsOf (M.table s), levOf (M.table s) v, rfl, rfl, hy, hn1, hM, hS, dh, dl, ok, rfl, rfl⟩)))) ds_next)
    have z := dt_neI (K := K) (ss := [sc, vy, some (.own 0), vM, vs, some (.dat (.int v)), some (.dat (sureD T.C_Sure v (hsOf (M.table s)) (levOf (M.table s) v)))]) (mem := [drM ns y n1, .dic W]) (dt_fld (f := "cost") (dt_var (i := 6) rfl) T.T_Sure.cl T.na_Sure_cost rfl) (dt_var (i := 5) rfl)
    rw [decide_eq_true rfl] at z
    exact db_test z
end
end K2
end
section
set_option Elab.async false
set_option linter.all false
set_option maxRecDepth 100000
set_option maxHeartbeats 0
namespace K2
open PySem PySem.Spec PyProof.Rows L2 DL DLz
abbrev d_is_done : DefX := ⟨fun K => He.ga K "is_done", "is_done", "is_done", s_is_done⟩
abbrev d_roads_from : DefX := ⟨fun K => He.ga K "roads_from", "roads_from", "roads_from", s_roads_from⟩
abbrev d_possible_moves : DefX := ⟨fun K => He.ga K "possible_moves", "possible_moves", "possible_moves", s_possible_moves⟩
abbrev d_pairs_from : DefX := ⟨fun K => He.ga K "pairs_from", "pairs_from", "pairs_from", s_pairs_from⟩
abbrev d_move_cost : DefX := ⟨fun K => He.ga K "move_cost", "move_cost", "move_cost", s_move_cost⟩
abbrev d_pieces_cost : DefX := ⟨fun K => He.ga K "pieces_cost", "pieces_cost", "pieces_cost", s_pieces_cost⟩
abbrev d_after_hour : DefX := ⟨fun K => He.ga K "after_hour", "after_hour", "after_hour", s_after_hour⟩
abbrev d_move_results : DefX := ⟨fun K => He.ga K "move_results", "move_results", "move_results", s_move_results⟩
abbrev d_is_within : DefX := ⟨fun K => He.ga K "is_within", "is_within", "is_within", s_is_within⟩
abbrev d_is_reached : DefX := ⟨fun K => He.ga K "is_reached", "is_reached", "is_reached", s_is_reached⟩
abbrev d_heights_hold : DefX := ⟨fun K => He.ga K "heights_hold", "heights_hold", "heights_hold", s_heights_hold⟩
abbrev d_height_holds : DefX := ⟨fun K => He.ga K "height_holds", "height_holds", "height_holds", s_height_holds⟩
abbrev d_are_within : DefX := ⟨fun K => He.ga K "are_within", "are_within", "are_within", s_are_within⟩
abbrev d_levels_hold : DefX := ⟨fun K => He.ga K "levels_hold", "levels_hold", "levels_hold", s_levels_hold⟩
abbrev d_level_holds : DefX := ⟨fun K => He.ga K "level_holds", "level_holds", "level_holds", s_level_holds⟩
abbrev d_greatest_level : DefX := ⟨fun K => He.ga K "greatest_level", "greatest_level", "greatest_level", s_greatest_level⟩
abbrev d_states_spoil : DefX := ⟨fun K => He.ga K "states_spoil", "states_spoil", "states_spoil", s_states_spoil⟩
abbrev d_state_spoils : DefX := ⟨fun K => He.ga K "state_spoils", "state_spoils", "state_spoils", s_state_spoils⟩
abbrev d_is_whole : DefX := ⟨fun K => He.ga K "is_whole", "is_whole", "is_whole", s_is_whole⟩
abbrev d_is_between : DefX := ⟨fun K => He.ga K "is_between", "is_between", "is_between", s_is_between⟩
abbrev d_is_group : DefX := ⟨fun K => He.ga K "is_group", "is_group", "is_group", s_is_group⟩
abbrev d_Map___init__ : DefX := ⟨fun K => He.ma K (He.ga K "Map") "__init__", "__init__", "Map.__init__", s_Map___init__⟩
abbrev d_Map_places : DefX := ⟨getAd "Map" "places", "places", "Map.places", s_Map_places⟩
abbrev d_Map_roads : DefX := ⟨getAd "Map" "roads", "roads", "Map.roads", s_Map_roads⟩
abbrev d_Map_prices : DefX := ⟨getAd "Map" "prices", "prices", "Map.prices", s_Map_prices⟩
abbrev d_Map_box : DefX := ⟨getAd "Map" "box", "box", "Map.box", s_Map_box⟩
abbrev d_Map___len__ : DefX := ⟨fun K => He.ma K (He.ga K "Map") "__len__", "__len__", "Map.__len__", s_Map___len__⟩
abbrev d_are_roads : DefX := ⟨fun K => He.ga K "are_roads", "are_roads", "are_roads", s_are_roads⟩
abbrev d_is_road : DefX := ⟨fun K => He.ga K "is_road", "is_road", "is_road", s_is_road⟩
abbrev d_are_prices : DefX := ⟨fun K => He.ga K "are_prices", "are_prices", "are_prices", s_are_prices⟩
abbrev d_is_box : DefX := ⟨fun K => He.ga K "is_box", "is_box", "is_box", s_is_box⟩
abbrev d_is_state : DefX := ⟨fun K => He.ga K "is_state", "is_state", "is_state", s_is_state⟩
abbrev d_check_map : DefX := ⟨fun K => He.ga K "check_map", "check_map", "check_map", s_check_map⟩
abbrev d_check_state : DefX := ⟨fun K => He.ga K "check_state", "check_state", "check_state", s_check_state⟩
abbrev d_Sure___init__ : DefX := ⟨fun K => He.ma K (He.ga K "Sure") "__init__", "__init__", "Sure.__init__", s_Sure___init__⟩
abbrev d_Sure___eq__ : DefX := ⟨fun K => He.ma K (He.ga K "Sure") "__eq__", "__eq__", "Sure.__eq__", s_Sure___eq__⟩
abbrev d_Sure_shows : DefX := ⟨fun K => He.ma K (He.ga K "Sure") "shows", "shows", "Sure.shows", s_Sure_shows⟩
abbrev d_Spoils___init__ : DefX := ⟨fun K => He.ma K (He.ga K "Spoils") "__init__", "__init__", "Spoils.__init__", s_Spoils___init__⟩
abbrev d_Spoils___eq__ : DefX := ⟨fun K => He.ma K (He.ga K "Spoils") "__eq__", "__eq__", "Spoils.__eq__", s_Spoils___eq__⟩
abbrev d_Spoils___iter__ : DefX := ⟨fun K => He.ma K (He.ga K "Spoils") "__iter__", "__iter__", "Spoils.__iter__", s_Spoils___iter__⟩
abbrev d_Spoils_shows : DefX := ⟨fun K => He.ma K (He.ga K "Spoils") "shows", "shows", "Spoils.shows", s_Spoils_shows⟩
abbrev d_sure : DefX := ⟨fun K => He.ga K "sure", "sure", "sure", s_sure⟩
abbrev d_sure_cost : DefX := ⟨fun K => He.ga K "sure_cost", "sure_cost", "sure_cost", s_sure_cost⟩
abbrev d_least_costs : DefX := ⟨fun K => He.ga K "least_costs", "least_costs", "least_costs", s_least_costs⟩
abbrev d_add_least_cost : DefX := ⟨fun K => He.ga K "add_least_cost", "add_least_cost", "add_least_cost", s_add_least_cost⟩
abbrev d_greatest_cost : DefX := ⟨fun K => He.ga K "greatest_cost", "greatest_cost", "greatest_cost", s_greatest_cost⟩
abbrev d_heights_from : DefX := ⟨fun K => He.ga K "heights_from", "heights_from", "heights_from", s_heights_from⟩
abbrev d_states_without : DefX := ⟨fun K => He.ga K "states_without", "states_without", "states_without", s_states_without⟩
abbrev d_levels_up_to : DefX := ⟨fun K => He.ga K "levels_up_to", "levels_up_to", "levels_up_to", s_levels_up_to⟩
abbrev d__law_cell_at : DefX := ⟨fun K => He.ga K "_law_cell_at", "_law_cell_at", "_law_cell_at", s__law_cell_at⟩
abbrev d__law_draw : DefX := ⟨fun K => He.ga K "_law_draw", "_law_draw", "_law_draw", s__law_draw⟩
abbrev d__law_number : DefX := ⟨fun K => He.ga K "_law_number", "_law_number", "_law_number", s__law_number⟩
abbrev d__law_next : DefX := ⟨fun K => He.ga K "_law_next", "_law_next", "_law_next", s__law_next⟩
abbrev d__law_pick : DefX := ⟨fun K => He.ga K "_law_pick", "_law_pick", "_law_pick", s__law_pick⟩
abbrev d__law_map : DefX := ⟨fun K => He.ga K "_law_map", "_law_map", "_law_map", s__law_map⟩
abbrev d__law_state : DefX := ⟨fun K => He.ga K "_law_state", "_law_state", "_law_state", s__law_state⟩
abbrev d__law_fees : DefX := ⟨fun K => He.ga K "_law_fees", "_law_fees", "_law_fees", s__law_fees⟩
abbrev d__law_moves : DefX := ⟨fun K => He.ga K "_law_moves", "_law_moves", "_law_moves", s__law_moves⟩
abbrev d__law_hours : DefX := ⟨fun K => He.ga K "_law_hours", "_law_hours", "_law_hours", s__law_hours⟩
abbrev d__law_ends : DefX := ⟨fun K => He.ga K "_law_ends", "_law_ends", "_law_ends", s__law_ends⟩
abbrev d__law_worth : DefX := ⟨fun K => He.ga K "_law_worth", "_law_worth", "_law_worth", s__law_worth⟩
abbrev d__law_low : DefX := ⟨fun K => He.ga K "_law_low", "_law_low", "_law_low", s__law_low⟩
abbrev d__law_high : DefX := ⟨fun K => He.ga K "_law_high", "_law_high", "_law_high", s__law_high⟩
abbrev d__law_right : DefX := ⟨fun K => He.ga K "_law_right", "_law_right", "_law_right", s__law_right⟩
abbrev d__law_shut : DefX := ⟨fun K => He.ga K "_law_shut", "_law_shut", "_law_shut", s__law_shut⟩
abbrev d__law_sure_right : DefX := ⟨fun K => He.ga K "_law_sure_right", "_law_sure_right", "_law_sure_right", s__law_sure_right⟩
abbrev d__law_spoils_right : DefX := ⟨fun K => He.ga K "_law_spoils_right", "_law_spoils_right", "_law_spoils_right", s__law_spoils_right⟩
abbrev d_law : DefX := ⟨fun K => He.ga K "law", "law", "law", s_law⟩
def fnL : List DefX := [d_is_done, d_roads_from, d_possible_moves, d_pairs_from, d_move_cost, d_pieces_cost, d_after_hour, d_move_results, d_is_within, d_is_reached, d_heights_hold, d_height_holds, d_are_within, d_levels_hold, d_level_holds, d_greatest_level, d_states_spoil, d_state_spoils, d_is_whole, d_is_between, d_is_group, d_Map___init__, d_Map_places, d_Map_roads, d_Map_prices, d_Map_box, d_Map___len__, d_are_roads, d_is_road, d_are_prices, d_is_box, d_is_state, d_check_map, d_check_state, d_Sure___init__, d_Sure___eq__, d_Sure_shows, d_Spoils___init__, d_Spoils___eq__, d_Spoils___iter__, d_Spoils_shows, d_sure, d_sure_cost, d_least_costs, d_add_least_cost, d_greatest_cost, d_heights_from, d_states_without, d_levels_up_to, d__law_cell_at, d__law_draw, d__law_number, d__law_next, d__law_pick, d__law_map, d__law_state, d__law_fees, d__law_moves, d__law_hours, d__law_ends, d__law_worth, d__law_low, d__law_high, d__law_right, d__law_shut, d__law_sure_right, d__law_spoils_right, d_law]
def faL : List Fx := [.fa (.glo "is_done"), .fa (.glo "roads_from"), .fa (.glo "possible_moves"), .fa (.glo "pairs_from"), .fa (.glo "move_cost"), .fa (.glo "pieces_cost"), .fa (.glo "after_hour"), .fa (.glo "move_results"), .fa (.glo "is_within"), .fa (.glo "is_reached"), .fa (.glo "heights_hold"), .fa (.glo "height_holds"), .fa (.glo "are_within"), .fa (.glo "levels_hold"), .fa (.glo "level_holds"), .fa (.glo "greatest_level"), .fa (.glo "states_spoil"), .fa (.glo "state_spoils"), .fa (.glo "is_whole"), .fa (.glo "is_between"), .fa (.glo "is_group"), .fa (.glo "are_roads"), .fa (.glo "is_road"), .fa (.glo "are_prices"), .fa (.glo "is_box"), .fa (.glo "is_state"), .fa (.glo "check_map"), .fa (.glo "check_state"), .fa (.glo "sure"), .fa (.glo "sure_cost"), .fa (.glo "least_costs"), .fa (.glo "add_least_cost"), .fa (.glo "greatest_cost"), .fa (.glo "heights_from"), .fa (.glo "states_without"), .fa (.glo "levels_up_to"), .fa (.glo "_law_cell_at"), .fa (.glo "_law_draw"), .fa (.glo "_law_number"), .fa (.glo "_law_next"), .fa (.glo "_law_pick"), .fa (.glo "_law_map"), .fa (.glo "_law_state"), .fa (.glo "_law_fees"), .fa (.glo "_law_moves"), .fa (.glo "_law_hours"), .fa (.glo "_law_ends"), .fa (.glo "_law_worth"), .fa (.glo "_law_low"), .fa (.glo "_law_high"), .fa (.glo "_law_right"), .fa (.glo "_law_shut"), .fa (.glo "_law_sure_right"), .fa (.glo "_law_spoils_right"), .fa (.glo "law"), .fa (.glo "Map"), .fa (.cls "Map"), .isi "Map", .fa (.mkr "Map"), .fa (.noat "Map" "_places"), .fa (.noat "Map" "_roads"), .fa (.noat "Map" "_prices"), .fa (.noat "Map" "_box"), .prop "Map" "places", .prop "Map" "roads", .prop "Map" "prices", .prop "Map" "box", .fa (.meth "Map" "__len__"), .fa (.glo "Sure"), .fa (.cls "Sure"), .isi "Sure", .fa (.mkr "Sure"), .fa (.noat "Sure" "cost"), .fa (.noat "Sure" "heights"), .fa (.noat "Sure" "levels"), .fa (.meth "Sure" "__eq__"), .fa (.meth "Sure" "shows"), .fa (.glo "Spoils"), .fa (.cls "Spoils"), .isi "Spoils", .fa (.mkr "Spoils"), .fa (.noat "Spoils" "states"), .fa (.meth "Spoils" "__eq__"), .fa (.noat "Spoils" "__len__"), .fa (.noat "Spoils" "__length_hint__"), .fa (.meth "Spoils" "__iter__"), .fa (.meth "Spoils" "shows"), .fa (.free "len"), .fa (.free "range"), .fa (.free "isinstance"), .fa (.free "all"), .fa (.free "any"), .fa (.free "zip"), .fa (.free "enumerate"), .fa (.free "sorted"), .fa (.free "set"), .fa (.free "max"), .fa (.free "min"), .fa (.free "int"), .fa (.free "bool"), .fa (.free "tuple"), .fa (.free "list"), .fa (.free "dict"), .fa (.free "iter"), .fa (.int "MOST_PLACES" 5), .fa (.int "MOST_ROADS" 7), .fa (.int "MOST_HOURS" 4), .fa (.int "MOST_MELT" 3), .fa (.int "MOST_PRICE" 9), .fa (.int "MOST_ROOM" 6), .fa (.int "MOST_BEAR" 2), .fa (.int "MOST_LATE" 4)]
theorem txt_of {K : PySem.W.Frag} {h : Heap} {mg : Str → Option Value} (X : K.In h) (G : h.Ns mainGlobals mg) (c : Says faL fnL K) : Nonempty (Txt K mg) := by
  obtain ⟨fd_is_done, F_is_done⟩ := c.def_ 0 (d := d_is_done) rfl
  obtain ⟨fd_roads_from, F_roads_from⟩ := c.def_ 1 (d := d_roads_from) rfl
  obtain ⟨fd_possible_moves, F_possible_moves⟩ := c.def_ 2 (d := d_possible_moves) rfl
  obtain ⟨fd_pairs_from, F_pairs_from⟩ := c.def_ 3 (d := d_pairs_from) rfl
  obtain ⟨fd_move_cost, F_move_cost⟩ := c.def_ 4 (d := d_move_cost) rfl
  obtain ⟨fd_pieces_cost, F_pieces_cost⟩ := c.def_ 5 (d := d_pieces_cost) rfl
  obtain ⟨fd_after_hour, F_after_hour⟩ := c.def_ 6 (d := d_after_hour) rfl
  obtain ⟨fd_move_results, F_move_results⟩ := c.def_ 7 (d := d_move_results) rfl
  obtain ⟨fd_is_within, F_is_within⟩ := c.def_ 8 (d := d_is_within) rfl
  obtain ⟨fd_is_reached, F_is_reached⟩ := c.def_ 9 (d := d_is_reached) rfl
  obtain ⟨fd_heights_hold, F_heights_hold⟩ := c.def_ 10 (d := d_heights_hold) rfl
  obtain ⟨fd_height_holds, F_height_holds⟩ := c.def_ 11 (d := d_height_holds) rfl
  obtain ⟨fd_are_within, F_are_within⟩ := c.def_ 12 (d := d_are_within) rfl
  obtain ⟨fd_levels_hold, F_levels_hold⟩ := c.def_ 13 (d := d_levels_hold) rfl
  obtain ⟨fd_level_holds, F_level_holds⟩ := c.def_ 14 (d := d_level_holds) rfl
  obtain ⟨fd_greatest_level, F_greatest_level⟩ := c.def_ 15 (d := d_greatest_level) rfl
  obtain ⟨fd_states_spoil, F_states_spoil⟩ := c.def_ 16 (d := d_states_spoil) rfl
  obtain ⟨fd_state_spoils, F_state_spoils⟩ := c.def_ 17 (d := d_state_spoils) rfl
  obtain ⟨fd_is_whole, F_is_whole⟩ := c.def_ 18 (d := d_is_whole) rfl
  obtain ⟨fd_is_between, F_is_between⟩ := c.def_ 19 (d := d_is_between) rfl
  obtain ⟨fd_is_group, F_is_group⟩ := c.def_ 20 (d := d_is_group) rfl
  obtain ⟨fd_Map___init__, F_Map___init__⟩ := c.def_ 21 (d := d_Map___init__) rfl
  obtain ⟨fd_Map_places, F_Map_places⟩ := c.def_ 22 (d := d_Map_places) rfl
  obtain ⟨fd_Map_roads, F_Map_roads⟩ := c.def_ 23 (d := d_Map_roads) rfl
  obtain ⟨fd_Map_prices, F_Map_prices⟩ := c.def_ 24 (d := d_Map_prices) rfl
  obtain ⟨fd_Map_box, F_Map_box⟩ := c.def_ 25 (d := d_Map_box) rfl
  obtain ⟨fd_Map___len__, F_Map___len__⟩ := c.def_ 26 (d := d_Map___len__) rfl
  obtain ⟨fd_are_roads, F_are_roads⟩ := c.def_ 27 (d := d_are_roads) rfl
  obtain ⟨fd_is_road, F_is_road⟩ := c.def_ 28 (d := d_is_road) rfl
  obtain ⟨fd_are_prices, F_are_prices⟩ := c.def_ 29 (d := d_are_prices) rfl
  obtain ⟨fd_is_box, F_is_box⟩ := c.def_ 30 (d := d_is_box) rfl
  obtain ⟨fd_is_state, F_is_state⟩ := c.def_ 31 (d := d_is_state) rfl
  obtain ⟨fd_check_map, F_check_map⟩ := c.def_ 32 (d := d_check_map) rfl
  obtain ⟨fd_check_state, F_check_state⟩ := c.def_ 33 (d := d_check_state) rfl
  obtain ⟨fd_Sure___init__, F_Sure___init__⟩ := c.def_ 34 (d := d_Sure___init__) rfl
  obtain ⟨fd_Sure___eq__, F_Sure___eq__⟩ := c.def_ 35 (d := d_Sure___eq__) rfl
  obtain ⟨fd_Sure_shows, F_Sure_shows⟩ := c.def_ 36 (d := d_Sure_shows) rfl
  obtain ⟨fd_Spoils___init__, F_Spoils___init__⟩ := c.def_ 37 (d := d_Spoils___init__) rfl
  obtain ⟨fd_Spoils___eq__, F_Spoils___eq__⟩ := c.def_ 38 (d := d_Spoils___eq__) rfl
  obtain ⟨fd_Spoils___iter__, F_Spoils___iter__⟩ := c.def_ 39 (d := d_Spoils___iter__) rfl
  obtain ⟨fd_Spoils_shows, F_Spoils_shows⟩ := c.def_ 40 (d := d_Spoils_shows) rfl
  obtain ⟨fd_sure, F_sure⟩ := c.def_ 41 (d := d_sure) rfl
  obtain ⟨fd_sure_cost, F_sure_cost⟩ := c.def_ 42 (d := d_sure_cost) rfl
  obtain ⟨fd_least_costs, F_least_costs⟩ := c.def_ 43 (d := d_least_costs) rfl
  obtain ⟨fd_add_least_cost, F_add_least_cost⟩ := c.def_ 44 (d := d_add_least_cost) rfl
  obtain ⟨fd_greatest_cost, F_greatest_cost⟩ := c.def_ 45 (d := d_greatest_cost) rfl
  obtain ⟨fd_heights_from, F_heights_from⟩ := c.def_ 46 (d := d_heights_from) rfl
  obtain ⟨fd_states_without, F_states_without⟩ := c.def_ 47 (d := d_states_without) rfl
  obtain ⟨fd_levels_up_to, F_levels_up_to⟩ := c.def_ 48 (d := d_levels_up_to) rfl
  obtain ⟨fd__law_cell_at, F__law_cell_at⟩ := c.def_ 49 (d := d__law_cell_at) rfl
  obtain ⟨fd__law_draw, F__law_draw⟩ := c.def_ 50 (d := d__law_draw) rfl
  obtain ⟨fd__law_number, F__law_number⟩ := c.def_ 51 (d := d__law_number) rfl
  obtain ⟨fd__law_next, F__law_next⟩ := c.def_ 52 (d := d__law_next) rfl
  obtain ⟨fd__law_pick, F__law_pick⟩ := c.def_ 53 (d := d__law_pick) rfl
  obtain ⟨fd__law_map, F__law_map⟩ := c.def_ 54 (d := d__law_map) rfl
  obtain ⟨fd__law_state, F__law_state⟩ := c.def_ 55 (d := d__law_state) rfl
  obtain ⟨fd__law_fees, F__law_fees⟩ := c.def_ 56 (d := d__law_fees) rfl
  obtain ⟨fd__law_moves, F__law_moves⟩ := c.def_ 57 (d := d__law_moves) rfl
  obtain ⟨fd__law_hours, F__law_hours⟩ := c.def_ 58 (d := d__law_hours) rfl
  obtain ⟨fd__law_ends, F__law_ends⟩ := c.def_ 59 (d := d__law_ends) rfl
  obtain ⟨fd__law_worth, F__law_worth⟩ := c.def_ 60 (d := d__law_worth) rfl
  obtain ⟨fd__law_low, F__law_low⟩ := c.def_ 61 (d := d__law_low) rfl
  obtain ⟨fd__law_high, F__law_high⟩ := c.def_ 62 (d := d__law_high) rfl
  obtain ⟨fd__law_right, F__law_right⟩ := c.def_ 63 (d := d__law_right) rfl
  obtain ⟨fd__law_shut, F__law_shut⟩ := c.def_ 64 (d := d__law_shut) rfl
  obtain ⟨fd__law_sure_right, F__law_sure_right⟩ := c.def_ 65 (d := d__law_sure_right) rfl
  obtain ⟨fd__law_spoils_right, F__law_spoils_right⟩ := c.def_ 66 (d := d__law_spoils_right) rfl
  obtain ⟨fd_law, F_law⟩ := c.def_ 67 (d := d_law) rfl
  refine ⟨{
    a_is_done := d_is_done.adr K
    fd_is_done := fd_is_done
    F_is_done := F_is_done
    b_is_done := F_is_done.binds (ps := ["chart", "state"]) (fun _ _ _ _ _ _ us hl => match us, hl with | [_, _], _ => rfl)
    g_is_done := He.glo_ok X G (c.fact 0 (f := .fa (.glo "is_done")) rfl)
    a_roads_from := d_roads_from.adr K
    fd_roads_from := fd_roads_from
    F_roads_from := F_roads_from
    b_roads_from := F_roads_from.binds (ps := ["chart", "place"]) (fun _ _ _ _ _ _ us hl => match us, hl with | [_, _], _ => rfl)
    g_roads_from := He.glo_ok X G (c.fact 1 (f := .fa (.glo "roads_from")) rfl)
    a_possible_moves := d_possible_moves.adr K
    fd_possible_moves := fd_possible_moves
    F_possible_moves := F_possible_moves
    b_possible_moves := F_possible_moves.binds (ps := ["chart", "state"]) (fun _ _ _ _ _ _ us hl => match us, hl with | [_, _], _ => rfl)
    g_possible_moves := He.glo_ok X G (c.fact 2 (f := .fa (.glo "possible_moves")) rfl)
    a_pairs_from := d_pairs_from.adr K
    fd_pairs_from := fd_pairs_from
    F_pairs_from := F_pairs_from
    b_pairs_from := F_pairs_from.binds (ps := ["chart", "place", "most"]) (fun _ _ _ _ _ _ us hl => match us, hl with | [_, _, _], _ => rfl)
    g_pairs_from := He.glo_ok X G (c.fact 3 (f := .fa (.glo "pairs_from")) rfl)
    a_move_cost := d_move_cost.adr K
    fd_move_cost := fd_move_cost
    F_move_cost := F_move_cost
    b_move_cost := F_move_cost.binds (ps := ["chart", "state", "move"]) (fun _ _ _ _ _ _ us hl => match us, hl with | [_, _, _], _ => rfl)
    g_move_cost := He.glo_ok X G (c.fact 4 (f := .fa (.glo "move_cost")) rfl)
    a_pieces_cost := d_pieces_cost.adr K
    fd_pieces_cost := fd_pieces_cost
    F_pieces_cost := F_pieces_cost
    b_pieces_cost := F_pieces_cost.binds (ps := ["chart", "place", "pieces"]) (fun _ _ _ _ _ _ us hl => match us, hl with | [_, _, _], _ => rfl)
    g_pieces_cost := He.glo_ok X G (c.fact 5 (f := .fa (.glo "pieces_cost")) rfl)
    a_after_hour := d_after_hour.adr K
    fd_after_hour := fd_after_hour
    F_after_hour := F_after_hour
    b_after_hour := F_after_hour.binds (ps := ["ice", "warm", "melt"]) (fun _ _ _ _ _ _ us hl => match us, hl with | [_, _, _], _ => rfl)
    g_after_hour := He.glo_ok X G (c.fact 6 (f := .fa (.glo "after_hour")) rfl)
    a_move_results := d_move_results.adr K
    fd_move_results := fd_move_results
    F_move_results := F_move_results
    b_move_results := F_move_results.binds (ps := ["chart", "state", "move"]) (fun _ _ _ _ _ _ us hl => match us, hl with | [_, _, _], _ => rfl)
    g_move_results := He.glo_ok X G (c.fact 7 (f := .fa (.glo "move_results")) rfl)
    a_is_within := d_is_within.adr K
    fd_is_within := fd_is_within
    F_is_within := F_is_within
    b_is_within := F_is_within.binds (ps := ["heights", "state", "most"]) (fun _ _ _ _ _ _ us hl => match us, hl with | [_, _, _], _ => rfl)
    g_is_within := He.glo_ok X G (c.fact 8 (f := .fa (.glo "is_within")) rfl)
    a_is_reached := d_is_reached.adr K
    fd_is_reached := fd_is_reached
    F_is_reached := F_is_reached
    b_is_reached := F_is_reached.binds (ps := ["levels", "state", "number"]) (fun _ _ _ _ _ _ us hl => match us, hl with | [_, _, _], _ => rfl)
    g_is_reached := He.glo_ok X G (c.fact 9 (f := .fa (.glo "is_reached")) rfl)
    a_heights_hold := d_heights_hold.adr K
    fd_heights_hold := fd_heights_hold
    F_heights_hold := F_heights_hold
    b_heights_hold := F_heights_hold.binds (ps := ["chart", "heights"]) (fun _ _ _ _ _ _ us hl => match us, hl with | [_, _], _ => rfl)
    g_heights_hold := He.glo_ok X G (c.fact 10 (f := .fa (.glo "heights_hold")) rfl)
    a_height_holds := d_height_holds.adr K
    fd_height_holds := fd_height_holds
    F_height_holds := F_height_holds
    b_height_holds := F_height_holds.binds (ps := ["chart", "heights", "state"]) (fun _ _ _ _ _ _ us hl => match us, hl with | [_, _, _], _ => rfl)
    g_height_holds := He.glo_ok X G (c.fact 11 (f := .fa (.glo "height_holds")) rfl)
    a_are_within := d_are_within.adr K
    fd_are_within := fd_are_within
    F_are_within := F_are_within
    b_are_within := F_are_within.binds (ps := ["heights", "ends", "most"]) (fun _ _ _ _ _ _ us hl => match us, hl with | [_, _, _], _ => rfl)
    g_are_within := He.glo_ok X G (c.fact 12 (f := .fa (.glo "are_within")) rfl)
    a_levels_hold := d_levels_hold.adr K
    fd_levels_hold := fd_levels_hold
    F_levels_hold := F_levels_hold
    b_levels_hold := F_levels_hold.binds (ps := ["chart", "levels"]) (fun _ _ _ _ _ _ us hl => match us, hl with | [_, _], _ => rfl)
    g_levels_hold := He.glo_ok X G (c.fact 13 (f := .fa (.glo "levels_hold")) rfl)
    a_level_holds := d_level_holds.adr K
    fd_level_holds := fd_level_holds
    F_level_holds := F_level_holds
    b_level_holds := F_level_holds.binds (ps := ["chart", "levels", "state"]) (fun _ _ _ _ _ _ us hl => match us, hl with | [_, _, _], _ => rfl)
    g_level_holds := He.glo_ok X G (c.fact 14 (f := .fa (.glo "level_holds")) rfl)
    a_greatest_level := d_greatest_level.adr K
    fd_greatest_level := fd_greatest_level
    F_greatest_level := F_greatest_level
    b_greatest_level := F_greatest_level.binds (ps := ["levels", "ends"]) (fun _ _ _ _ _ _ us hl => match us, hl with | [_, _], _ => rfl)
    g_greatest_level := He.glo_ok X G (c.fact 15 (f := .fa (.glo "greatest_level")) rfl)
    a_states_spoil := d_states_spoil.adr K
    fd_states_spoil := fd_states_spoil
    F_states_spoil := F_states_spoil
    b_states_spoil := F_states_spoil.binds (ps := ["chart", "states"]) (fun _ _ _ _ _ _ us hl => match us, hl with | [_, _], _ => rfl)
    g_states_spoil := He.glo_ok X G (c.fact 16 (f := .fa (.glo "states_spoil")) rfl)
    a_state_spoils := d_state_spoils.adr K
    fd_state_spoils := fd_state_spoils
    F_state_spoils := F_state_spoils
    b_state_spoils := F_state_spoils.binds (ps := ["chart", "held", "state"]) (fun _ _ _ _ _ _ us hl => match us, hl with | [_, _, _], _ => rfl)
    g_state_spoils := He.glo_ok X G (c.fact 17 (f := .fa (.glo "state_spoils")) rfl)
    a_is_whole := d_is_whole.adr K
    fd_is_whole := fd_is_whole
    F_is_whole := F_is_whole
    b_is_whole := F_is_whole.binds (ps := ["value"]) (fun _ _ _ _ _ _ us hl => match us, hl with | [_], _ => rfl)
    g_is_whole := He.glo_ok X G (c.fact 18 (f := .fa (.glo "is_whole")) rfl)
    a_is_between := d_is_between.adr K
    fd_is_between := fd_is_between
    F_is_between := F_is_between
    b_is_between := F_is_between.binds (ps := ["value", "low", "high"]) (fun _ _ _ _ _ _ us hl => match us, hl with | [_, _, _], _ => rfl)
    g_is_between := He.glo_ok X G (c.fact 19 (f := .fa (.glo "is_between")) rfl)
    a_is_group := d_is_group.adr K
    fd_is_group := fd_is_group
    F_is_group := F_is_group
    b_is_group := F_is_group.binds (ps := ["value", "size"]) (fun _ _ _ _ _ _ us hl => match us, hl with | [_, _], _ => rfl)
    g_is_group := He.glo_ok X G (c.fact 20 (f := .fa (.glo "is_group")) rfl)
    a_Map___init__ := d_Map___init__.adr K
    fd_Map___init__ := fd_Map___init__
    F_Map___init__ := F_Map___init__
    b_Map___init__ := F_Map___init__.binds (ps := ["self", "places", "roads", "prices", "box"]) (fun _ _ _ _ _ _ us hl => match us, hl with | [_, _, _, _, _], _ => rfl)
    a_Map_places := d_Map_places.adr K
    fd_Map_places := fd_Map_places
    F_Map_places := F_Map_places
    b_Map_places := F_Map_places.binds (ps := ["self"]) (fun _ _ _ _ _ _ us hl => match us, hl with | [_], _ => rfl)
    a_Map_roads := d_Map_roads.adr K
    fd_Map_roads := fd_Map_roads
    F_Map_roads := F_Map_roads
    b_Map_roads := F_Map_roads.binds (ps := ["self"]) (fun _ _ _ _ _ _ us hl => match us, hl with | [_], _ => rfl)
    a_Map_prices := d_Map_prices.adr K
    fd_Map_prices := fd_Map_prices
    F_Map_prices := F_Map_prices
    b_Map_prices := F_Map_prices.binds (ps := ["self"]) (fun _ _ _ _ _ _ us hl => match us, hl with | [_], _ => rfl)
    a_Map_box := d_Map_box.adr K
    fd_Map_box := fd_Map_box
    F_Map_box := F_Map_box
    b_Map_box := F_Map_box.binds (ps := ["self"]) (fun _ _ _ _ _ _ us hl => match us, hl with | [_], _ => rfl)
    a_Map___len__ := d_Map___len__.adr K
    fd_Map___len__ := fd_Map___len__
    F_Map___len__ := F_Map___len__
    b_Map___len__ := F_Map___len__.binds (ps := ["self"]) (fun _ _ _ _ _ _ us hl => match us, hl with | [_], _ => rfl)
    a_are_roads := d_are_roads.adr K
    fd_are_roads := fd_are_roads
    F_are_roads := F_are_roads
    b_are_roads := F_are_roads.binds (ps := ["places", "roads"]) (fun _ _ _ _ _ _ us hl => match us, hl with | [_, _], _ => rfl)
    g_are_roads := He.glo_ok X G (c.fact 21 (f := .fa (.glo "are_roads")) rfl)
    a_is_road := d_is_road.adr K
    fd_is_road := fd_is_road
    F_is_road := F_is_road
    b_is_road := F_is_road.binds (ps := ["places", "road"]) (fun _ _ _ _ _ _ us hl => match us, hl with | [_, _], _ => rfl)
    g_is_road := He.glo_ok X G (c.fact 22 (f := .fa (.glo "is_road")) rfl)
    a_are_prices := d_are_prices.adr K
    fd_are_prices := fd_are_prices
    F_are_prices := F_are_prices
    b_are_prices := F_are_prices.binds (ps := ["places", "prices"]) (fun _ _ _ _ _ _ us hl => match us, hl with | [_, _], _ => rfl)
    g_are_prices := He.glo_ok X G (c.fact 23 (f := .fa (.glo "are_prices")) rfl)
    a_is_box := d_is_box.adr K
    fd_is_box := fd_is_box
    F_is_box := F_is_box
    b_is_box := F_is_box.binds (ps := ["box"]) (fun _ _ _ _ _ _ us hl => match us, hl with | [_], _ => rfl)
    g_is_box := He.glo_ok X G (c.fact 24 (f := .fa (.glo "is_box")) rfl)
    a_is_state := d_is_state.adr K
    fd_is_state := fd_is_state
    F_is_state := F_is_state
    b_is_state := F_is_state.binds (ps := ["chart", "state"]) (fun _ _ _ _ _ _ us hl => match us, hl with | [_, _], _ => rfl)
    g_is_state := He.glo_ok X G (c.fact 25 (f := .fa (.glo "is_state")) rfl)
    a_check_map := d_check_map.adr K
    fd_check_map := fd_check_map
    F_check_map := F_check_map
    b_check_map := F_check_map.binds (ps := ["chart"]) (fun _ _ _ _ _ _ us hl => match us, hl with | [_], _ => rfl)
    g_check_map := He.glo_ok X G (c.fact 26 (f := .fa (.glo "check_map")) rfl)
    a_check_state := d_check_state.adr K
    fd_check_state := fd_check_state
    F_check_state := F_check_state
    b_check_state := F_check_state.binds (ps := ["chart", "state"]) (fun _ _ _ _ _ _ us hl => match us, hl with | [_, _], _ => rfl)
    g_check_state := He.glo_ok X G (c.fact 27 (f := .fa (.glo "check_state")) rfl)
    a_Sure___init__ := d_Sure___init__.adr K
    fd_Sure___init__ := fd_Sure___init__
    F_Sure___init__ := F_Sure___init__
    b_Sure___init__ := F_Sure___init__.binds (ps := ["self", "cost", "heights", "levels"]) (fun _ _ _ _ _ _ us hl => match us, hl with | [_, _, _, _], _ => rfl)
    a_Sure___eq__ := d_Sure___eq__.adr K
    fd_Sure___eq__ := fd_Sure___eq__
    F_Sure___eq__ := F_Sure___eq__
    b_Sure___eq__ := F_Sure___eq__.binds (ps := ["self", "other"]) (fun _ _ _ _ _ _ us hl => match us, hl with | [_, _], _ => rfl)
    a_Sure_shows := d_Sure_shows.adr K
    fd_Sure_shows := fd_Sure_shows
    F_Sure_shows := F_Sure_shows
    b_Sure_shows := F_Sure_shows.binds (ps := ["self", "chart", "state"]) (fun _ _ _ _ _ _ us hl => match us, hl with | [_, _, _], _ => rfl)
    a_Spoils___init__ := d_Spoils___init__.adr K
    fd_Spoils___init__ := fd_Spoils___init__
    F_Spoils___init__ := F_Spoils___init__
    b_Spoils___init__ := F_Spoils___init__.binds (ps := ["self", "states"]) (fun _ _ _ _ _ _ us hl => match us, hl with | [_, _], _ => rfl)
    a_Spoils___eq__ := d_Spoils___eq__.adr K
    fd_Spoils___eq__ := fd_Spoils___eq__
    F_Spoils___eq__ := F_Spoils___eq__
    b_Spoils___eq__ := F_Spoils___eq__.binds (ps := ["self", "other"]) (fun _ _ _ _ _ _ us hl => match us, hl with | [_, _], _ => rfl)
    a_Spoils___iter__ := d_Spoils___iter__.adr K
    fd_Spoils___iter__ := fd_Spoils___iter__
    F_Spoils___iter__ := F_Spoils___iter__
    b_Spoils___iter__ := F_Spoils___iter__.binds (ps := ["self"]) (fun _ _ _ _ _ _ us hl => match us, hl with | [_], _ => rfl)
    a_Spoils_shows := d_Spoils_shows.adr K
    fd_Spoils_shows := fd_Spoils_shows
    F_Spoils_shows := F_Spoils_shows
    b_Spoils_shows := F_Spoils_shows.binds (ps := ["self", "chart", "state"]) (fun _ _ _ _ _ _ us hl => match us, hl with | [_, _, _], _ => rfl)
    a_sure := d_sure.adr K
    fd_sure := fd_sure
    F_sure := F_sure
    b_sure := F_sure.binds (ps := ["chart", "state"]) (fun _ _ _ _ _ _ us hl => match us, hl with | [_, _], _ => rfl)
    g_sure := He.glo_ok X G (c.fact 28 (f := .fa (.glo "sure")) rfl)
    a_sure_cost := d_sure_cost.adr K
    fd_sure_cost := fd_sure_cost
    F_sure_cost := F_sure_cost
    b_sure_cost := F_sure_cost.binds (ps := ["chart", "state"]) (fun _ _ _ _ _ _ us hl => match us, hl with | [_, _], _ => rfl)
    g_sure_cost := He.glo_ok X G (c.fact 29 (f := .fa (.glo "sure_cost")) rfl)
    a_least_costs := d_least_costs.adr K
    fd_least_costs := fd_least_costs
    F_least_costs := F_least_costs
    b_least_costs := F_least_costs.binds (ps := ["chart", "state"]) (fun _ _ _ _ _ _ us hl => match us, hl with | [_, _], _ => rfl)
    g_least_costs := He.glo_ok X G (c.fact 30 (f := .fa (.glo "least_costs")) rfl)
    a_add_least_cost := d_add_least_cost.adr K
    fd_add_least_cost := fd_add_least_cost
    F_add_least_cost := F_add_least_cost
    b_add_least_cost := F_add_least_cost.binds (ps := ["chart", "state", "costs"]) (fun _ _ _ _ _ _ us hl => match us, hl with | [_, _, _], _ => rfl)
    g_add_least_cost := He.glo_ok X G (c.fact 31 (f := .fa (.glo "add_least_cost")) rfl)
    a_greatest_cost := d_greatest_cost.adr K
    fd_greatest_cost := fd_greatest_cost
    F_greatest_cost := F_greatest_cost
    b_greatest_cost := F_greatest_cost.binds (ps := ["costs", "ends"]) (fun _ _ _ _ _ _ us hl => match us, hl with | [_, _], _ => rfl)
    g_greatest_cost := He.glo_ok X G (c.fact 32 (f := .fa (.glo "greatest_cost")) rfl)
    a_heights_from := d_heights_from.adr K
    fd_heights_from := fd_heights_from
    F_heights_from := F_heights_from
    b_heights_from := F_heights_from.binds (ps := ["costs"]) (fun _ _ _ _ _ _ us hl => match us, hl with | [_], _ => rfl)
    g_heights_from := He.glo_ok X G (c.fact 33 (f := .fa (.glo "heights_from")) rfl)
    a_states_without := d_states_without.adr K
    fd_states_without := fd_states_without
    F_states_without := F_states_without
    b_states_without := F_states_without.binds (ps := ["costs"]) (fun _ _ _ _ _ _ us hl => match us, hl with | [_], _ => rfl)
    g_states_without := He.glo_ok X G (c.fact 34 (f := .fa (.glo "states_without")) rfl)
    a_levels_up_to := d_levels_up_to.adr K
    fd_levels_up_to := fd_levels_up_to
    F_levels_up_to := F_levels_up_to
    b_levels_up_to := F_levels_up_to.binds (ps := ["costs", "most"]) (fun _ _ _ _ _ _ us hl => match us, hl with | [_, _], _ => rfl)
    g_levels_up_to := He.glo_ok X G (c.fact 35 (f := .fa (.glo "levels_up_to")) rfl)
    a__law_cell_at := d__law_cell_at.adr K
    fd__law_cell_at := fd__law_cell_at
    F__law_cell_at := F__law_cell_at
    b__law_cell_at := F__law_cell_at.binds (ps := ["_law_script", "_law_k"]) (fun _ _ _ _ _ _ us hl => match us, hl with | [_, _], _ => rfl)
    g__law_cell_at := He.glo_ok X G (c.fact 36 (f := .fa (.glo "_law_cell_at")) rfl)
    a__law_draw := d__law_draw.adr K
    fd__law_draw := fd__law_draw
    F__law_draw := F__law_draw
    b__law_draw := F__law_draw.binds (ps := ["_law_cell", "_law_k", "_law_bound"]) (fun _ _ _ _ _ _ us hl => match us, hl with | [_, _, _], _ => rfl)
    g__law_draw := He.glo_ok X G (c.fact 37 (f := .fa (.glo "_law_draw")) rfl)
    a__law_number := d__law_number.adr K
    fd__law_number := fd__law_number
    F__law_number := F__law_number
    b__law_number := F__law_number.binds (ps := ["_law_cell", "_law_k", "_law_bound"]) (fun _ _ _ _ _ _ us hl => match us, hl with | [_, _, _], _ => rfl)
    g__law_number := He.glo_ok X G (c.fact 38 (f := .fa (.glo "_law_number")) rfl)
    a__law_next := d__law_next.adr K
    fd__law_next := fd__law_next
    F__law_next := F__law_next
    b__law_next := F__law_next.binds (ps := ["_law_draw_here", "_law_bound"]) (fun _ _ _ _ _ _ us hl => match us, hl with | [_, _], _ => rfl)
    g__law_next := He.glo_ok X G (c.fact 39 (f := .fa (.glo "_law_next")) rfl)
    a__law_pick := d__law_pick.adr K
    fd__law_pick := fd__law_pick
    F__law_pick := F__law_pick
    b__law_pick := F__law_pick.binds (ps := ["_law_draw_here", "_law_things"]) (fun _ _ _ _ _ _ us hl => match us, hl with | [_, _], _ => rfl)
    g__law_pick := He.glo_ok X G (c.fact 40 (f := .fa (.glo "_law_pick")) rfl)
    a__law_map := d__law_map.adr K
    fd__law_map := fd__law_map
    F__law_map := F__law_map
    b__law_map := F__law_map.binds (ps := ["_law_draw_here", "_law_places"]) (fun _ _ _ _ _ _ us hl => match us, hl with | [_, _], _ => rfl)
    g__law_map := He.glo_ok X G (c.fact 41 (f := .fa (.glo "_law_map")) rfl)
    a__law_state := d__law_state.adr K
    fd__law_state := fd__law_state
    F__law_state := F__law_state
    b__law_state := F__law_state.binds (ps := ["_law_draw_here", "_law_chart"]) (fun _ _ _ _ _ _ us hl => match us, hl with | [_, _], _ => rfl)
    g__law_state := He.glo_ok X G (c.fact 42 (f := .fa (.glo "_law_state")) rfl)
    a__law_fees := d__law_fees.adr K
    fd__law_fees := fd__law_fees
    F__law_fees := F__law_fees
    b__law_fees := F__law_fees.binds (ps := ["_law_chart", "_law_place", "_law_pieces"]) (fun _ _ _ _ _ _ us hl => match us, hl with | [_, _, _], _ => rfl)
    g__law_fees := He.glo_ok X G (c.fact 43 (f := .fa (.glo "_law_fees")) rfl)
    a__law_moves := d__law_moves.adr K
    fd__law_moves := fd__law_moves
    F__law_moves := F__law_moves
    b__law_moves := F__law_moves.binds (ps := ["_law_chart", "_law_state_here"]) (fun _ _ _ _ _ _ us hl => match us, hl with | [_, _], _ => rfl)
    g__law_moves := He.glo_ok X G (c.fact 44 (f := .fa (.glo "_law_moves")) rfl)
    a__law_hours := d__law_hours.adr K
    fd__law_hours := fd__law_hours
    F__law_hours := F__law_hours
    b__law_hours := F__law_hours.binds (ps := ["_law_chart", "_law_ice", "_law_warm", "_law_road", "_law_more"]) (fun _ _ _ _ _ _ us hl => match us, hl with | [_, _, _, _, _], _ => rfl)
    g__law_hours := He.glo_ok X G (c.fact 45 (f := .fa (.glo "_law_hours")) rfl)
    a__law_ends := d__law_ends.adr K
    fd__law_ends := fd__law_ends
    F__law_ends := F__law_ends
    b__law_ends := F__law_ends.binds (ps := ["_law_chart", "_law_state_here", "_law_move"]) (fun _ _ _ _ _ _ us hl => match us, hl with | [_, _, _], _ => rfl)
    g__law_ends := He.glo_ok X G (c.fact 46 (f := .fa (.glo "_law_ends")) rfl)
    a__law_worth := d__law_worth.adr K
    fd__law_worth := fd__law_worth
    F__law_worth := F__law_worth
    b__law_worth := F__law_worth.binds (ps := ["_law_chart", "_law_state_here", "_law_met"]) (fun _ _ _ _ _ _ us hl => match us, hl with | [_, _, _], _ => rfl)
    g__law_worth := He.glo_ok X G (c.fact 47 (f := .fa (.glo "_law_worth")) rfl)
    a__law_low := d__law_low.adr K
    fd__law_low := fd__law_low
    F__law_low := F__law_low
    b__law_low := F__law_low.binds (ps := ["_law_chart", "_law_heights", "_law_state_here"]) (fun _ _ _ _ _ _ us hl => match us, hl with | [_, _, _], _ => rfl)
    g__law_low := He.glo_ok X G (c.fact 48 (f := .fa (.glo "_law_low")) rfl)
    a__law_high := d__law_high.adr K
    fd__law_high := fd__law_high
    F__law_high := F__law_high
    b__law_high := F__law_high.binds (ps := ["_law_chart", "_law_levels", "_law_state_here"]) (fun _ _ _ _ _ _ us hl => match us, hl with | [_, _, _], _ => rfl)
    g__law_high := He.glo_ok X G (c.fact 49 (f := .fa (.glo "_law_high")) rfl)
    a__law_right := d__law_right.adr K
    fd__law_right := fd__law_right
    F__law_right := F__law_right
    b__law_right := F__law_right.binds (ps := ["_law_chart", "_law_state_here", "_law_parts"]) (fun _ _ _ _ _ _ us hl => match us, hl with | [_, _, _], _ => rfl)
    g__law_right := He.glo_ok X G (c.fact 50 (f := .fa (.glo "_law_right")) rfl)
    a__law_shut := d__law_shut.adr K
    fd__law_shut := fd__law_shut
    F__law_shut := F__law_shut
    b__law_shut := F__law_shut.binds (ps := ["_law_chart", "_law_state_here", "_law_some"]) (fun _ _ _ _ _ _ us hl => match us, hl with | [_, _, _], _ => rfl)
    g__law_shut := He.glo_ok X G (c.fact 51 (f := .fa (.glo "_law_shut")) rfl)
    a__law_sure_right := d__law_sure_right.adr K
    fd__law_sure_right := fd__law_sure_right
    F__law_sure_right := F__law_sure_right
    b__law_sure_right := F__law_sure_right.binds (ps := ["_law_draw_here", "_law_chart", "_law_state_here", "_law_found"]) (fun _ _ _ _ _ _ us hl => match us, hl with | [_, _, _, _], _ => rfl)
    g__law_sure_right := He.glo_ok X G (c.fact 52 (f := .fa (.glo "_law_sure_right")) rfl)
    a__law_spoils_right := d__law_spoils_right.adr K
    fd__law_spoils_right := fd__law_spoils_right
    F__law_spoils_right := F__law_spoils_right
    b__law_spoils_right := F__law_spoils_right.binds (ps := ["_law_draw_here", "_law_chart", "_law_state_here", "_law_found"]) (fun _ _ _ _ _ _ us hl => match us, hl with | [_, _, _, _], _ => rfl)
    g__law_spoils_right := He.glo_ok X G (c.fact 53 (f := .fa (.glo "_law_spoils_right")) rfl)
    a_law := d_law.adr K
    fd_law := fd_law
    F_law := F_law
    b_law := F_law.binds (ps := ["_law_script"]) (fun _ _ _ _ _ _ us hl => match us, hl with | [_], _ => rfl)
    g_law := He.glo_ok X G (c.fact 54 (f := .fa (.glo "law")) rfl)
    C_Map := He.ga K "Map"
    g_Map := He.glo_ok X G (c.fact 55 (f := .fa (.glo "Map")) rfl)
    T_Map := isi_ok (c.fact 56 (f := .fa (.cls "Map")) rfl) (c.fact 57 (f := .isi "Map") rfl)
    mk_Map := He.mkr_ok (c.fact 58 (f := .fa (.mkr "Map")) rfl)
    na_Map__places := He.noat_ok (c.fact 59 (f := .fa (.noat "Map" "_places")) rfl)
    na_Map__roads := He.noat_ok (c.fact 60 (f := .fa (.noat "Map" "_roads")) rfl)
    na_Map__prices := He.noat_ok (c.fact 61 (f := .fa (.noat "Map" "_prices")) rfl)
    na_Map__box := He.noat_ok (c.fact 62 (f := .fa (.noat "Map" "_box")) rfl)
    p_Map_places := He.ma K (He.ga K "Map") "places"
    PO_places := prop_ok (c.fact 63 (f := .prop "Map" "places") rfl)
    p_Map_roads := He.ma K (He.ga K "Map") "roads"
    PO_roads := prop_ok (c.fact 64 (f := .prop "Map" "roads") rfl)
    p_Map_prices := He.ma K (He.ga K "Map") "prices"
    PO_prices := prop_ok (c.fact 65 (f := .prop "Map" "prices") rfl)
    p_Map_box := He.ma K (He.ga K "Map") "box"
    PO_box := prop_ok (c.fact 66 (f := .prop "Map" "box") rfl)
    L_Map := He.meth_ok (c.fact 67 (f := .fa (.meth "Map" "__len__")) rfl)
    C_Sure := He.ga K "Sure"
    g_Sure := He.glo_ok X G (c.fact 68 (f := .fa (.glo "Sure")) rfl)
    T_Sure := isi_ok (c.fact 69 (f := .fa (.cls "Sure")) rfl) (c.fact 70 (f := .isi "Sure") rfl)
    mk_Sure := He.mkr_ok (c.fact 71 (f := .fa (.mkr "Sure")) rfl)
    na_Sure_cost := He.noat_ok (c.fact 72 (f := .fa (.noat "Sure" "cost")) rfl)
    na_Sure_heights := He.noat_ok (c.fact 73 (f := .fa (.noat "Sure" "heights")) rfl)
    na_Sure_levels := He.noat_ok (c.fact 74 (f := .fa (.noat "Sure" "levels")) rfl)
    M_Sure___eq__ := He.meth_ok (c.fact 75 (f := .fa (.meth "Sure" "__eq__")) rfl)
    M_Sure_shows := He.meth_ok (c.fact 76 (f := .fa (.meth "Sure" "shows")) rfl)
    C_Spoils := He.ga K "Spoils"
    g_Spoils := He.glo_ok X G (c.fact 77 (f := .fa (.glo "Spoils")) rfl)
    T_Spoils := isi_ok (c.fact 78 (f := .fa (.cls "Spoils")) rfl) (c.fact 79 (f := .isi "Spoils") rfl)
    mk_Spoils := He.mkr_ok (c.fact 80 (f := .fa (.mkr "Spoils")) rfl)
    na_Spoils_states := He.noat_ok (c.fact 81 (f := .fa (.noat "Spoils" "states")) rfl)
    M_Spoils___eq__ := He.meth_ok (c.fact 82 (f := .fa (.meth "Spoils" "__eq__")) rfl)
    nl_Spoils := He.noat_ok (c.fact 83 (f := .fa (.noat "Spoils" "__len__")) rfl)
    nh_Spoils := He.noat_ok (c.fact 84 (f := .fa (.noat "Spoils" "__length_hint__")) rfl)
    M_Spoils___iter__ := He.meth_ok (c.fact 85 (f := .fa (.meth "Spoils" "__iter__")) rfl)
    M_Spoils_shows := He.meth_ok (c.fact 86 (f := .fa (.meth "Spoils" "shows")) rfl)
    n_len := He.free_ok X G (c.fact 87 (f := .fa (.free "len")) rfl)
    n_range := He.free_ok X G (c.fact 88 (f := .fa (.free "range")) rfl)
    n_isinstance := He.free_ok X G (c.fact 89 (f := .fa (.free "isinstance")) rfl)
    n_all := He.free_ok X G (c.fact 90 (f := .fa (.free "all")) rfl)
    n_any := He.free_ok X G (c.fact 91 (f := .fa (.free "any")) rfl)
    n_zip := He.free_ok X G (c.fact 92 (f := .fa (.free "zip")) rfl)
    n_enumerate := He.free_ok X G (c.fact 93 (f := .fa (.free "enumerate")) rfl)
    n_sorted := He.free_ok X G (c.fact 94 (f := .fa (.free "sorted")) rfl)
    n_set := He.free_ok X G (c.fact 95 (f := .fa (.free "set")) rfl)
    n_max := He.free_ok X G (c.fact 96 (f := .fa (.free "max")) rfl)
    n_min := He.free_ok X G (c.fact 97 (f := .fa (.free "min")) rfl)
    n_int := He.free_ok X G (c.fact 98 (f := .fa (.free "int")) rfl)
    n_bool := He.free_ok X G (c.fact 99 (f := .fa (.free "bool")) rfl)
    n_tuple := He.free_ok X G (c.fact 100 (f := .fa (.free "tuple")) rfl)
    n_list := He.free_ok X G (c.fact 101 (f := .fa (.free "list")) rfl)
    n_dict := He.free_ok X G (c.fact 102 (f := .fa (.free "dict")) rfl)
    n_iter := He.free_ok X G (c.fact 103 (f := .fa (.free "iter")) rfl)
    k_MOST_PLACES := He.int_ok X G (c.fact 104 (f := .fa (.int "MOST_PLACES" 5)) rfl)
    k_MOST_ROADS := He.int_ok X G (c.fact 105 (f := .fa (.int "MOST_ROADS" 7)) rfl)
    k_MOST_HOURS := He.int_ok X G (c.fact 106 (f := .fa (.int "MOST_HOURS" 4)) rfl)
    k_MOST_MELT := He.int_ok X G (c.fact 107 (f := .fa (.int "MOST_MELT" 3)) rfl)
    k_MOST_PRICE := He.int_ok X G (c.fact 108 (f := .fa (.int "MOST_PRICE" 9)) rfl)
    k_MOST_ROOM := He.int_ok X G (c.fact 109 (f := .fa (.int "MOST_ROOM" 6)) rfl)
    k_MOST_BEAR := He.int_ok X G (c.fact 110 (f := .fa (.int "MOST_BEAR" 2)) rfl)
    k_MOST_LATE := He.int_ok X G (c.fact 111 (f := .fa (.int "MOST_LATE" 4)) rfl) }⟩
def looseL : List PySem.Str := (["is_done", "roads_from", "possible_moves", "pairs_from", "move_cost", "pieces_cost", "after_hour", "move_results", "is_within", "is_reached", "heights_hold", "height_holds", "are_within", "levels_hold", "level_holds", "greatest_level", "states_spoil", "state_spoils", "CoolError", "BadMap", "BadState", "is_whole", "is_between", "is_group", "MOST_PLACES", "MOST_ROADS", "MOST_HOURS", "MOST_MELT", "MOST_PRICE", "MOST_ROOM"] : List PySem.Str) ++ (["MOST_BEAR", "MOST_LATE", "Map", "are_roads", "is_road", "are_prices", "is_box", "is_state", "check_map", "check_state", "Sure", "Spoils", "sure", "sure_cost", "least_costs", "add_least_cost", "greatest_cost", "heights_from", "states_without", "levels_up_to", "_law_cell_at", "_law_draw", "_law_number", "_law_next", "_law_pick", "_law_map", "_law_state", "_law_fees", "_law_moves", "_law_hours"] : List PySem.Str) ++ (["_law_ends", "_law_worth", "_law_low", "_law_high", "_law_right", "_law_shut", "_law_sure_right", "_law_spoils_right"] : List PySem.Str)
abbrev R : PySem.W.OpenRow := PySem.W.OpenLaw.row PySem.Challenge.rw_coolway_k02_whole_sure
abbrev hk : PySem.W.Hook := hook 6 faL fnL
def ob (s : PySem.W.SharedT) : Al := obsG 6 faL fnL (HandSHeadRun.getT s)
theorem ob_eq (s : PySem.W.SharedT) : ob s = hk.obs s.abs := obsG_eq (HandSHeadRun.getT_eq s)
theorem run (w : World) : HandSHeadRun.RunEq R (PySem.W.view R.prog [75]) hk ob 4000 looseL w := by
  intro os
  kernel_rfl
end K2
end
section
set_option Elab.async false
set_option linter.all false

open PySem PySem.W PySem.Calls PyProof.Rows
set_option maxRecDepth 100000 in
set_option maxHeartbeats 0 in
theorem PySem.Challenge.cw_coolway_k02_whole_sure_holds : PySem.Challenge.rw_coolway_k02_whole_sure.Holds := by
  w_on; o_law
  refine HandSHeadRun.head_any (r := OpenLaw.row PySem.Challenge.rw_coolway_k02_whole_sure) (q := view (OpenLaw.row PySem.Challenge.rw_coolway_k02_whole_sure).prog [75]) (H := K2.hk) (ob := K2.ob) (M := 4000) (loose := K2.looseL) (d := HandSHeadRun.topDef (OpenLaw.row PySem.Challenge.rw_coolway_k02_whole_sure).prog 75) (kwd := []) K2.ob_eq
    (by kernel_rfl) (fun s => by kernel_rfl) K2.run (by kernel_rfl) (by kernel_rfl) (by kernel_rfl) (by rfl) (by first | assumption | decide +kernel) (by decide +kernel) ⟨rfl, rfl, rfl, rfl, rfl, by decide +kernel⟩ ?hw ?hc
  case hw => w_witness2
  case hc =>
    refine L2.walk_ofE (l := PySem.Challenge.rw_coolway_k02_whole_sure) (n := 63) (k := 14) (x := "_law_script") (CX := L2.CX0) rfl (by decide) (by kernel_rfl) ⟨rfl, by decide, by decide⟩ ?F (fun _ _ _ _ z => z)
    intro w mg fa h Y G hmg0
    obtain ⟨K, KX, c⟩ := Y
    have hmg : mg ("law" : PySem.Str) = some (.ref fa) := by
      have e : (HandSHeadRun.topDef (OpenLaw.row PySem.Challenge.rw_coolway_k02_whole_sure).prog 75).name = ("law" : PySem.Str) := by kernel_rfl
      rw [← e]
      exact hmg0
    obtain ⟨T⟩ := K2.txt_of KX G c
    have efa : fa = T.a_law := by
      have z := hmg.symm.trans T.g_law
      cases z
      rfl
    subst efa
    exact ⟨K, T.fd_law, DL.spP K 1 K2.R_law, KX, DLz.binds1 T.F_law (fun _ _ _ _ _ _ _ => rfl), fun H a ns hl _ hS => DLz.law_end hS ⟨ns, hl, rfl, rfl⟩, fun base _ _ => K2.ok_law T⟩
end
