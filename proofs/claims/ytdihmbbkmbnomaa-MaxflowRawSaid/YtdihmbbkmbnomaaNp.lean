/- Package maxflow: what the laws need of it: progValid_any (P3), progValue_any, progCapacity_any, progCheck_any and their _inv (P4 to P6), progSolve_any, progSolve_inv, SolveN (PE). -/
import Derived.Test.YtdihmbbkmbnomaaPE
