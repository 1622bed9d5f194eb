/-
  Layer 7: the options that follow a message in NeighborMore: plain mathematics.
-/
import Derived.Test.YtogchaijglbjaaaCutNb7n
namespace Go.Proofs.Ytogchaijglbjaaa
open Go.RowKit
def moreL (t : Int) (u : Nat) : List Int := ((List.replicate (8 * u) 0).set 0 t).set 1 (u : Int)
def againL (k : Int) : List Int := [optZ k, 1, 2, 2, 2, 2, 2, 2]
def wantN (n : NK) : NK := bif n.has then n else ⟨n.kind, n.flags, n.tv, n.th, n.tl, true, 2, 2, 2, 2, 2, 2⟩
def sgnP (p : PK) : PK := if 4 ≤ p.data.length ∧ p.ok = true ∧ p.v = true then ⟨p.v, p.h, p.l, p.v2, p.h2, p.l2, p.pr, p.ttl, sgn p.h p.l p.h2 p.l2 ((p.data.set 2 0).set 3 0)⟩ else p
end Go.Proofs.Ytogchaijglbjaaa
